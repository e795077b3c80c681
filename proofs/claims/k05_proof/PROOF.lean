import PyProof.Rows.All
import Wide.All
import OpenK.AllK
import Wide.FinOn
import HandS.Base
import HandS.Call
import HandS.CallLocal
import HandS.Comp
import HandS.Conv
import HandS.DictTup
import HandS.EndBits
import HandS.Ends
import HandS.ExcCtx
import HandS.ExcIs
import HandS.Flow
import HandS.ForMost
import HandS.HotCalls
import HandS.IsInst
import HandS.List
import HandS.ListItems
import HandS.More
import HandS.SetFor
import HandS.SortInts
import HandS.SortKw
import HandS.SortRule
import HandS.Strs
import HandS.Style
import HandS.TupSets
import HandS.WideBits
import HandS.Words
import KE.KRevSl
import KE.SortCalls
import KE.SortData
import KE.RegKIsAll
import PyProof.EqAt
import PyProof.EqKinds
import PyProof.TupleCall
import PySem.Challenge.RW_partways_k05_refused
set_option Elab.async false
set_option linter.all false
set_option maxRecDepth 100000
set_option Elab.async false
set_option linter.all false
set_option maxRecDepth 100000
set_option maxHeartbeats 2000000
namespace DW
open PySem PySem.Spec L2
inductive D where
  | non | bl (b : Bool) | int (i : Int) | str (x : Str)
  | lst (ds : List D) | tup (ds : List D)
  | dic (kvs : List (Int × D))
  | obj (C : Addr) (f : Str) (d : D)
  | opq (a : Addr)
mutual
inductive R (K : PySem.W.Frag) (b : Bool) (H : Hp) : V → D → Prop
  | non : R K b H .non .non
  | bl (k : Bool) : R K b H (.bl k) (.bl k)
  | int (i : Int) : R K b H (.int i) (.int i)
  | str (x : Str) : R K b H (.str x) (.str x)
  | lst {a : Addr} {xs : List V} {ds : List D} : H a = some (.lst xs) → RA K b H xs ds → R K b H (.ref a) (.lst ds)
  | tup {a : Addr} {xs : List V} {ds : List D} : H a = some (.tup xs) → RA K b H xs ds → R K b H (.ref a) (.tup ds)
  | dic {a : Addr} {kvs : List (Key × V)} {ds : List (Int × D)} : H a = some (.dK kvs) → RK K b H kvs ds → R K b H (.ref a) (.dic ds)
  | obj {a C dx : Addr} {f : Str} {v : V} {d : D} : H a = some (.ins C dx [(f, v)]) → R K b H v d → R K b H (.ref a) (.obj C f d)
  | opq (a : Addr) : R K b H (.ref a) (.opq a)
  | scr {a : Addr} {ns : List Int} {ds : List D} : b = true → SqL K H a (ns.map V.int) → ds = ns.map D.int → R K b H (.ref a) (.lst ds)
inductive RA (K : PySem.W.Frag) (b : Bool) (H : Hp) : List V → List D → Prop
  | nil : RA K b H [] []
  | cons {v : V} {vs : List V} {d : D} {ds : List D} : R K b H v d → RA K b H vs ds → RA K b H (v :: vs) (d :: ds)
inductive RK (K : PySem.W.Frag) (b : Bool) (H : Hp) : List (Key × V) → List (Int × D) → Prop
  | nil : RK K b H [] []
  | cons {k : Int} {v : V} {vs : List (Key × V)} {d : D} {ds : List (Int × D)} : R K b H v d → RK K b H vs ds → RK K b H ((.inl k, v) :: vs) ((k, d) :: ds)
end
section
variable {K : PySem.W.Frag} {b b' : Bool} {H H' : Hp}
mutual
theorem R.mono (e : Same H H') (hb : b = true → b' = true) : ∀ {v : V} {d : D}, R K b H v d → R K b' H' v d
  | _, _, .non => .non
  | _, _, .bl k => .bl k
  | _, _, .int i => .int i
  | _, _, .str x => .str x
  | _, _, .lst h r => .lst (e _ _ h) (RA.mono e hb r)
  | _, _, .tup h r => .tup (e _ _ h) (RA.mono e hb r)
  | _, _, .dic h r => .dic (e _ _ h) (RK.mono e hb r)
  | _, _, .obj h r => .obj (e _ _ h) (R.mono e hb r)
  | _, _, .opq a => .opq a
  | _, _, .scr z h q => .scr (hb z) (e.seq h) q
theorem RA.mono (e : Same H H') (hb : b = true → b' = true) : ∀ {v : List V} {d : List D}, RA K b H v d → RA K b' H' v d
  | _, _, .nil => .nil
  | _, _, .cons h r => .cons (R.mono e hb h) (RA.mono e hb r)
theorem RK.mono (e : Same H H') (hb : b = true → b' = true) : ∀ {v : List (Key × V)} {d : List (Int × D)}, RK K b H v d → RK K b' H' v d
  | _, _, .nil => .nil
  | _, _, .cons h r => .cons (R.mono e hb h) (RK.mono e hb r)
end
theorem RA.length : ∀ {v : List V} {d : List D}, RA K b H v d → v.length = d.length
  | _, _, .nil => rfl
  | _, _, .cons _ r => by simp [RA.length r]
theorem RA.get : ∀ {vs : List V} {ds : List D} {i : Nat} {d : D}, RA K b H vs ds → ds[i]? = some d → ∃ v, vs[i]? = some v ∧ R K b H v d
  | _, _, _, _, .nil, e => by simp at e
  | _, _, 0, _, .cons h _, e => by simp at e; subst e; exact ⟨_, rfl, h⟩
  | _, _, i + 1, _, .cons _ r, e => by
    obtain ⟨v, h1, h2⟩ := RA.get (i := i) r (by simpa using e)
    exact ⟨v, by simpa using h1, h2⟩
theorem RA.getV : ∀ {vs : List V} {ds : List D} {i : Nat} {v : V}, RA K b H vs ds → vs[i]? = some v → ∃ d, ds[i]? = some d ∧ R K b H v d
  | _, _, _, _, .nil, e => by simp at e
  | _, _, 0, _, .cons h _, e => by simp at e; subst e; exact ⟨_, rfl, h⟩
  | _, _, i + 1, _, .cons _ r, e => by
    obtain ⟨v, h1, h2⟩ := RA.getV (i := i) r (by simpa using e)
    exact ⟨v, by simpa using h1, h2⟩
theorem RA.append : ∀ {xs ys : List V} {ds es : List D}, RA K b H xs ds → RA K b H ys es → RA K b H (xs ++ ys) (ds ++ es)
  | _, _, _, _, .nil, s => s
  | _, _, _, _, .cons h r, s => .cons h (RA.append r s)
theorem RA.take : ∀ {xs : List V} {ds : List D} (n : Nat), RA K b H xs ds → RA K b H (xs.take n) (ds.take n)
  | _, _, 0, _ => .nil
  | _, _, _ + 1, .nil => .nil
  | _, _, n + 1, .cons h r => .cons h (RA.take n r)
theorem RA.drop : ∀ {xs : List V} {ds : List D} (n : Nat), RA K b H xs ds → RA K b H (xs.drop n) (ds.drop n)
  | _, _, 0, r => r
  | _, _, _ + 1, .nil => .nil
  | _, _, n + 1, .cons _ r => RA.drop n r
theorem RA.reverse : ∀ {xs : List V} {ds : List D}, RA K b H xs ds → RA K b H xs.reverse ds.reverse
  | _, _, .nil => .nil
  | _, _, .cons h r => by
    rw [List.reverse_cons, List.reverse_cons]
    exact RA.append (RA.reverse r) (.cons h .nil)
theorem RA.set : ∀ {xs : List V} {ds : List D} (i : Nat) {v : V} {d : D}, R K b H v d → RA K b H xs ds → RA K b H (xs.set i v) (ds.set i d)
  | _, _, _, _, _, _, .nil => .nil
  | _, _, 0, _, _, h, .cons _ r => .cons h r
  | _, _, i + 1, _, _, h, .cons h0 r => .cons h0 (RA.set i h r)
theorem RA.eraseIdx : ∀ {xs : List V} {ds : List D} (i : Nat), RA K b H xs ds → RA K b H (xs.eraseIdx i) (ds.eraseIdx i)
  | _, _, _, .nil => .nil
  | _, _, 0, .cons _ r => r
  | _, _, i + 1, .cons h0 r => .cons h0 (RA.eraseIdx i r)
theorem RA.ints : ∀ {ns : List Int}, RA K b H (ns.map V.int) (ns.map D.int)
  | [] => .nil
  | n :: ns => .cons (.int n) (RA.ints (ns := ns))
theorem RA.bls : ∀ {ns : List Bool}, RA K b H (ns.map V.bl) (ns.map D.bl)
  | [] => .nil
  | n :: ns => .cons (.bl n) (RA.bls (ns := ns))
theorem RA.ints_inv : ∀ {ns : List Int} {vs : List V}, RA K b H vs (ns.map D.int) → vs = ns.map V.int
  | [], _, .nil => rfl
  | n :: ns, _, .cons (.int _) r => by rw [RA.ints_inv r]; rfl
theorem RA.bls_inv : ∀ {ns : List Bool} {vs : List V}, RA K b H vs (ns.map D.bl) → vs = ns.map V.bl
  | [], _, .nil => rfl
  | n :: ns, _, .cons (.bl _) r => by rw [RA.bls_inv r]; rfl
theorem R.seq {v : V} {ds : List D} (h : R K b H v (.lst ds)) : ∃ a xs, v = .ref a ∧ SqL K H a xs ∧ RA K b H xs ds := by
  cases h with
  | lst h r => exact ⟨_, _, rfl, SqL.of h, r⟩
  | scr _ h q => subst q; exact ⟨_, _, rfl, h, RA.ints⟩
theorem R.lstI {v : V} {ds : List D} (h : R K false H v (.lst ds)) : ∃ a xs, v = .ref a ∧ H a = some (.lst xs) ∧ RA K false H xs ds := by
  cases h with
  | lst h r => exact ⟨_, _, rfl, h, r⟩
  | scr z h q => cases z
theorem R.tupI {v : V} {ds : List D} (h : R K b H v (.tup ds)) : ∃ a xs, v = .ref a ∧ H a = some (.tup xs) ∧ RA K b H xs ds := by
  cases h with
  | tup h r => exact ⟨_, _, rfl, h, r⟩
theorem R.dicI {v : V} {ds : List (Int × D)} (h : R K b H v (.dic ds)) : ∃ a xs, v = .ref a ∧ H a = some (.dK xs) ∧ RK K b H xs ds := by
  cases h with
  | dic h r => exact ⟨_, _, rfl, h, r⟩
theorem R.intI {v : V} {i : Int} (h : R K b H v (.int i)) : v = .int i := by
  cases h; rfl
theorem R.blI {v : V} {i : Bool} (h : R K b H v (.bl i)) : v = .bl i := by
  cases h; rfl
theorem R.nonI {v : V} (h : R K b H v .non) : v = .non := by
  cases h; rfl
theorem R.strI {v : V} {x : Str} (h : R K b H v (.str x)) : v = .str x := by
  cases h; rfl
theorem R.objI {v : V} {C : Addr} {f : Str} {d : D} (h : R K b H v (.obj C f d)) : ∃ a dx x, v = .ref a ∧ H a = some (.ins C dx [(f, x)]) ∧ R K b H x d := by
  cases h with
  | obj h r => exact ⟨_, _, _, rfl, h, r⟩
end
mutual
def imm : D → Bool
  | .non => true | .bl _ => true | .int _ => true | .str _ => true
  | .lst _ => false | .dic _ => false | .obj _ _ _ => false | .opq _ => true
  | .tup ds => immA ds
def immA : List D → Bool
  | [] => true
  | d :: ds => imm d && immA ds
end
theorem immA_iff : ∀ {ds : List D}, immA ds = true ↔ ∀ d ∈ ds, imm d = true
  | [] => by simp [immA]
  | d :: ds => by simp [immA, immA_iff (ds := ds)]
def Tups (H H' : Hp) : Prop := ∀ a xs, H a = some (.tup xs) → H' a = some (.tup xs)
section
variable {K : PySem.W.Frag} {b b' : Bool} {H H' : Hp}
mutual
theorem R.imm (e : Tups H H') : ∀ {v : V} {d : D}, imm d = true → R K b H v d → R K b' H' v d
  | _, _, _, .non => .non
  | _, _, _, .bl k => .bl k
  | _, _, _, .int i => .int i
  | _, _, _, .str x => .str x
  | _, _, q, .lst h r => by simp [DW.imm] at q
  | _, _, q, .tup h r => .tup (e _ _ h) (RA.imm e (by simpa [DW.imm] using q) r)
  | _, _, q, .dic h r => by simp [DW.imm] at q
  | _, _, q, .obj h r => by simp [DW.imm] at q
  | _, _, q, .scr z h _ => by simp [DW.imm] at q
  | _, _, _, .opq a => .opq a
theorem RA.imm (e : Tups H H') : ∀ {v : List V} {d : List D}, immA d = true → RA K b H v d → RA K b' H' v d
  | _, _, _, .nil => .nil
  | _, _, q, .cons h r => by
    rw [immA, Bool.and_eq_true] at q
    exact .cons (R.imm e q.1 h) (RA.imm e q.2 r)
end
end
def er (ps : List Addr) (H : Hp) : Hp := fun a => if a ∈ ps then none else H a
def cl (H0 H : Hp) : Hp := fun a => match H a with
  | some (.tup vs) => some (.tup vs)
  | o => if (H0 a).isNone then o else none
theorem er_nil (H : Hp) : er [] H = H := by funext a; simp [er]
theorem er_le (ps : List Addr) (H : Hp) : Same (er ps H) H := fun a o e => by
  unfold er at e
  split at e
  · cases e
  · exact e
theorem cl_le (H0 H : Hp) : Same (cl H0 H) H := fun a o e => by
  unfold cl at e
  split at e
  · rename_i vs q; rw [q]; exact e
  · split at e
    · exact e
    · cases e
theorem er_mono {ps : List Addr} {H H' : Hp} (e : Same H H') : Same (er ps H) (er ps H') := fun a o h => by
  unfold er at h ⊢
  split at h
  · cases h
  · rename_i hn; rw [if_neg hn]; exact e a o h
theorem er_sub {ps qs : List Addr} {H : Hp} (h : ∀ p ∈ ps, p ∈ qs) : Same (er qs H) (er ps H) := fun a o e => by
  unfold er at e ⊢
  split at e
  · cases e
  · rename_i hn; rw [if_neg fun z => hn (h a z)]; exact e
theorem cl_tup {H0 H : Hp} {a : Addr} {vs : List V} (h : H a = some (.tup vs)) : cl H0 H a = some (.tup vs) := by
  unfold cl; rw [h]
theorem cl_new {H0 H : Hp} {a : Addr} {o : HO} (h0 : H0 a = none) (h : H a = some o) : cl H0 H a = some o := by
  unfold cl
  split
  · rename_i vs q; rw [q] at h; exact h
  · rw [h0]; exact h
theorem cl_old {H0 H : Hp} {a : Addr} {o u : HO} (h0 : H0 a = some u) (h : cl H0 H a = some o) : ∃ vs, o = .tup vs ∧ H a = some (.tup vs) := by
  unfold cl at h
  split at h
  · rename_i vs q; cases h; exact ⟨vs, rfl, q⟩
  · rw [h0] at h; simp at h
theorem cl_mono {H0 H H' : Hp} (e : Same H H') : Same (cl H0 H) (cl H0 H') := fun a o h => by
  unfold cl at h
  split at h
  · rename_i vs q; cases h; exact cl_tup (e _ _ q)
  · split at h
    · rename_i z
      exact cl_new (by simpa using z) (e _ _ h)
    · cases h
theorem cl_base {H0 H1 H : Hp} (e : Same H0 H1) : Same (cl H1 H) (cl H0 H) := fun a o h => by
  cases q : H1 a with
  | some u =>
    obtain ⟨vs, rfl, e2⟩ := cl_old q h
    exact cl_tup e2
  | none => exact cl_new (e.free q) (cl_le _ _ _ _ h)
theorem tups_cl (H0 : Hp) {H H' : Hp} (e : Same H H') : Tups H (cl H0 H') := fun a xs h => cl_tup (e _ _ h)
def isM : HO → Prop
  | .lst _ => True
  | .dK _ => True
  | .ins _ _ _ => True
  | _ => False
theorem tups_er {ps : List Addr} {H : Hp} (h : ∀ p ∈ ps, ∃ o, H p = some o ∧ isM o) : Tups H (er ps H) := fun a xs e => by
  unfold er
  rw [if_neg fun z => ?_]
  · exact e
  · obtain ⟨o, h1, h2⟩ := h a z
    rw [h1] at e; cases e; exact h2
end DW
set_option Elab.async false
set_option linter.all false
set_option maxRecDepth 100000
set_option maxHeartbeats 2000000
namespace DW
open PySem PySem.Spec L2
structure WE (X : Cx) (e : Expr) (σ : L2.St) (H : Hp) (Q : VK) : Prop where
  run : ∀ pins s, Inv X pins σ H s → wpAny (model X.prog X.w) X.A (eval e X.env) (EP X pins σ Q) X.xe s
structure WT (X : Cx) (e : Expr) (σ : L2.St) (H : Hp) (Q : Bool → Hp → Prop) : Prop where
  run : ∀ pins s, Inv X pins σ H s → wpAny (model X.prog X.w) X.A (isTrue e X.env (eval e X.env)) (TP X pins σ Q) X.xe s
structure WA (X : Cx) (es : List Expr) (σ : L2.St) (H : Hp) (Q : List V → Hp → Prop) : Prop where
  run : ∀ pos pins s, Inv X pins σ H s → wpAny (model X.prog X.w) X.A (spliced (backTo pos (starEach es X.env))) (AP X pins σ Q) X.xe s
structure WS (X : Cx) (st : Stmt) (D : Ends) (σ : L2.St) (H : Hp) : Prop where
  run : ∀ pins s, Inv X pins σ H s → wpAny (model X.prog X.w) X.A (exec st X.env) (SP X pins D) X.xe s
structure WSs (X : Cx) (st : List Stmt) (D : Ends) (σ : L2.St) (H : Hp) : Prop where
  run : ∀ pins s, Inv X pins σ H s → wpAny (model X.prog X.w) X.A (execs st X.env) (SP X pins D) X.xe s
structure WG (X : Cx) (tg : Expr) (v : V) (σ : L2.St) (H : Hp) (Q : L2.St → Hp → Prop) : Prop where
  run : ∀ pins s u, Inv X pins σ H s → RelV v u → wpAny (model X.prog X.w) X.A (assign tg X.env u) (fun _ s' => ∃ σ' H', Inv X pins σ' H' s' ∧ Q σ' H') X.xe s
structure WGs (X : Cx) (ts : List Expr) (vs : List V) (σ : L2.St) (H : Hp) (Q : L2.St → Hp → Prop) : Prop where
  run : ∀ pins s us, Inv X pins σ H s → Vals vs us → wpAny (model X.prog X.w) X.A (assignInOrder ((assignEach ts X.env).map (·.2)) us) (fun _ s' => ∃ σ' H', Inv X pins σ' H' s' ∧ Q σ' H') X.xe s
structure WI (X : Cx) (tg iter : Expr) (σ : L2.St) (H : Hp) (R : It → Hp → Prop) : Prop where
  run : ∀ pins s, Inv X pins σ H s → wpAny (model X.prog X.w) X.A (eval iter X.env) (fun v s1 => wpAny (model X.prog X.w) X.A (pyIter v) (PIE X pins σ tg R) X.xe s1) X.xe s
structure WTs (X : Cx) (ifs : List Expr) (σ : L2.St) (H : Hp) (Q : Bool → Hp → Prop) : Prop where
  run : ∀ pins s, Inv X pins σ H s → wpAny (model X.prog X.w) X.A (forIn ifs true fun c r => if r = true then do let ok ← isTrue c X.env (eval c X.env); pure (ForInStep.yield ok) else pure (ForInStep.yield r)) (TP X pins σ Q) X.xe s
abbrev wE (X : Cx) (e : Expr) : TE := WE X e
abbrev wT (X : Cx) (e : Expr) : TT := WT X e
abbrev wA (X : Cx) (es : List Expr) : TA := WA X es
abbrev wS (X : Cx) (st : Stmt) : TS := WS X st
abbrev wSs (X : Cx) (st : List Stmt) : TS := WSs X st
abbrev wG (X : Cx) (tg : Expr) : TG := WG X tg
abbrev wGs (X : Cx) (ts : List Expr) : TGs := WGs X ts
abbrev wI (X : Cx) (tg iter : Expr) : TI := WI X tg iter
abbrev wTs (X : Cx) (ifs : List Expr) : TT := WTs X ifs
section
variable {X : Cx}
theorem pw_E {e : Expr} : PE X e (wE X e) := ⟨fun pins s σ H Q I h => h.run pins s I⟩
theorem pw_T {e : Expr} : PT X e (wT X e) := ⟨fun pins s σ H Q I h => h.run pins s I⟩
theorem pw_A {es : List Expr} : PA X es (wA X es) := ⟨fun pos pins s σ H Q I h => h.run pos pins s I⟩
theorem pw_S {st : Stmt} : PS X st (wS X st) := ⟨fun pins s σ H D I h => h.run pins s I⟩
theorem pw_Ss {st : List Stmt} : PSs X st (wSs X st) := ⟨fun pins s σ H D I h => h.run pins s I⟩
theorem pw_G {tg : Expr} : PG X tg (wG X tg) := ⟨fun pins s σ H v u Q I r h => h.run pins s u I r⟩
theorem pw_Gs {ts : List Expr} : PGs X ts (wGs X ts) := ⟨fun pins s σ H v u Q I r h => h.run pins s u I r⟩
theorem pw_I {tg iter : Expr} : PI X tg iter (wI X tg iter) := ⟨fun pins s σ H R I h => h.run pins s I⟩
theorem pw_Ts {ifs : List Expr} : PTs X ifs (wTs X ifs) := ⟨fun pins s σ H Q I h => h.run pins s I⟩
theorem _root_.L2.PE.w {e : Expr} {t : TE} {σ : St} {H : Hp} {Q : VK} (h : PE X e t) (q : t σ H Q) : wE X e σ H Q := ⟨fun pins s I => h.run pins s σ H Q I q⟩
theorem _root_.L2.PT.w {e : Expr} {t : TT} {σ : St} {H : Hp} {Q : Bool → Hp → Prop} (h : PT X e t) (q : t σ H Q) : wT X e σ H Q := ⟨fun pins s I => h.run pins s σ H Q I q⟩
theorem _root_.L2.PA.w {e : List Expr} {t : TA} {σ : St} {H : Hp} {Q : List V → Hp → Prop} (h : PA X e t) (q : t σ H Q) : wA X e σ H Q := ⟨fun pos pins s I => h.run pos pins s σ H Q I q⟩
theorem _root_.L2.PS.w {e : Stmt} {t : TS} {σ : St} {H : Hp} {D : Ends} (h : PS X e t) (q : t D σ H) : wS X e D σ H := ⟨fun pins s I => h.run pins s σ H D I q⟩
theorem _root_.L2.PSs.w {e : List Stmt} {t : TS} {σ : St} {H : Hp} {D : Ends} (h : PSs X e t) (q : t D σ H) : wSs X e D σ H := ⟨fun pins s I => h.run pins s σ H D I q⟩
theorem _root_.L2.PG.w {e : Expr} {t : TG} {v : V} {σ : St} {H : Hp} {Q : St → Hp → Prop} (h : PG X e t) (q : t v σ H Q) : wG X e v σ H Q := ⟨fun pins s u I r => h.run pins s σ H v u Q I r q⟩
theorem _root_.L2.PGs.w {e : List Expr} {t : TGs} {v : List V} {σ : St} {H : Hp} {Q : St → Hp → Prop} (h : PGs X e t) (q : t v σ H Q) : wGs X e v σ H Q := ⟨fun pins s u I r => h.run pins s σ H v u Q I r q⟩
theorem _root_.L2.PI.w {tg e : Expr} {t : TI} {σ : St} {H : Hp} {Q : It → Hp → Prop} (h : PI X tg e t) (q : t σ H Q) : wI X tg e σ H Q := ⟨fun pins s I => h.run pins s σ H Q I q⟩
theorem _root_.L2.PTs.w {e : List Expr} {t : TT} {σ : St} {H : Hp} {Q : Bool → Hp → Prop} (h : PTs X e t) (q : t σ H Q) : wTs X e σ H Q := ⟨fun pins s I => h.run pins s σ H Q I q⟩
end
inductive Slot where
  | un | val (d : D) | arg (d : D) | own (j : Nat) | fld (C : Addr) (f : Str) (j : Nat)
abbrev Env := List Slot × List D
inductive Md where
  | cl | ar | any
  deriving DecidableEq
def RM (K : PySem.W.Frag) (m : Md) (H0 : Hp) (ps : List Addr) (H : Hp) (v : V) (d : D) : Prop := match m with
  | .cl => R K false (er ps (cl H0 H)) v d
  | .ar => R K true H0 v d
  | .any => R K true H v d
def RMA (K : PySem.W.Frag) (m : Md) (H0 : Hp) (ps : List Addr) (H : Hp) (v : List V) (d : List D) : Prop := match m with
  | .cl => RA K false (er ps (cl H0 H)) v d
  | .ar => RA K true H0 v d
  | .any => RA K true H v d
def SlotR (K : PySem.W.Frag) (H0 : Hp) (ps : List Addr) (H : Hp) (o : Option (Option V)) : Slot → Prop
  | .un => True
  | .val d => ∃ v, o = some (some v) ∧ R K false (er ps (cl H0 H)) v d
  | .arg d => ∃ v, o = some (some v) ∧ R K true H0 v d
  | .own j => ∃ p, o = some (some (.ref p)) ∧ ps[j]? = some p
  | .fld C f j => ∃ p dx q, o = some (some (.ref p)) ∧ H0 p = none ∧ H p = some (.ins C dx [(f, .ref q)]) ∧ ps[j]? = some q ∧ p ∉ ps
def OwnR (K : PySem.W.Frag) (H0 : Hp) (ps : List Addr) (H : Hp) (p : Addr) : D → Prop
  | .lst ds => ∃ vs, H p = some (.lst vs) ∧ RA K false (er ps (cl H0 H)) vs ds
  | .dic ds => ∃ vs, H p = some (.dK vs) ∧ RK K false (er ps (cl H0 H)) vs ds
  | _ => False
structure EnvR (K : PySem.W.Frag) (H0 : Hp) (ps : List Addr) (env : Env) (σ : St) (H : Hp) : Prop where
  same : Same H0 H
  mu : ∀ p ∈ ps, H0 p = none ∧ ∃ o, H p = some o ∧ isM o
  nd : ps.Nodup
  ow : ∀ (j : Nat) (d : D), env.2[j]? = some d → ∃ p, ps[j]? = some p ∧ OwnR K H0 ps H p d
  sl : ∀ (i : Nat) (s : Slot), env.1[i]? = some s → SlotR K H0 ps H (σ[i]?) s
section
variable {K : PySem.W.Frag} {m : Md} {H0 H H' : Hp} {ps qs : List Addr} {v : V} {d : D} {env : Env} {σ : St}
theorem ec_mono (e : Same H H') : Same (er ps (cl H0 H)) (er ps (cl H0 H')) := er_mono (cl_mono e)
theorem ec_le : Same (er ps (cl H0 H)) H := (er_le ps _).trans (cl_le H0 H)
theorem RM.mono (e : Same H H') (h : RM K m H0 ps H v d) : RM K m H0 ps H' v d := by
  cases m with
  | cl => exact R.mono (ec_mono e) id h
  | ar => exact h
  | any => exact R.mono e id h
theorem RMA.mono {v : List V} {d : List D} (e : Same H H') (h : RMA K m H0 ps H v d) : RMA K m H0 ps H' v d := by
  cases m with
  | cl => exact RA.mono (ec_mono e) id h
  | ar => exact h
  | any => exact RA.mono e id h
theorem RM.any (e : Same H0 H) (h : RM K m H0 ps H v d) : R K true H v d := by
  cases m with
  | cl => exact R.mono (b := false) ec_le (fun z => nomatch z) h
  | ar => exact R.mono e id h
  | any => exact h
theorem RMA.any {v : List V} {d : List D} (e : Same H0 H) (h : RMA K m H0 ps H v d) : RA K true H v d := by
  cases m with
  | cl => exact RA.mono (b := false) ec_le (fun z => nomatch z) h
  | ar => exact RA.mono e id h
  | any => exact h
theorem SlotR.mono {o : Option (Option V)} (e : Same H H') : ∀ {s : Slot}, SlotR K H0 ps H o s → SlotR K H0 ps H' o s
  | .un, _ => trivial
  | .val d, ⟨v, h1, h2⟩ => ⟨v, h1, R.mono (ec_mono e) id h2⟩
  | .arg d, h => h
  | .own j, h => h
  | .fld C f j, ⟨p, dx, q, h1, h2, h3, h4⟩ => ⟨p, dx, q, h1, h2, e _ _ h3, h4⟩
theorem OwnR.mono {p : Addr} (e : Same H H') : ∀ {d : D}, OwnR K H0 ps H p d → OwnR K H0 ps H' p d
  | .lst ds, ⟨vs, h1, h2⟩ => ⟨vs, e _ _ h1, RA.mono (ec_mono e) id h2⟩
  | .dic ds, ⟨vs, h1, h2⟩ => ⟨vs, e _ _ h1, RK.mono (ec_mono e) id h2⟩
  | .non, h => h.elim
  | .bl _, h => h.elim
  | .int _, h => h.elim
  | .str _, h => h.elim
  | .tup _, h => h.elim
  | .obj _ _ _, h => h.elim
  | .opq _, h => h.elim
theorem EnvR.mono (e : Same H H') (h : EnvR K H0 ps env σ H) : EnvR K H0 ps env σ H' where
  same := h.same.trans e
  mu := fun p hp => by
    obtain ⟨h1, o, h2, h3⟩ := h.mu p hp
    exact ⟨h1, o, e _ _ h2, h3⟩
  nd := h.nd
  ow := fun j d q => by
    obtain ⟨p, h1, h2⟩ := h.ow j d q
    exact ⟨p, h1, h2.mono e⟩
  sl := fun i s q => (h.sl i s q).mono e
theorem EnvR.more {p : Addr} {o : HO} (h : EnvR K H0 ps env σ H) (hp : H p = none) (ho : isM o) : EnvR K H0 (ps ++ [p]) env σ (upd H p o) := by
  have hn : p ∉ ps := fun z => by
    obtain ⟨_, o', h2, _⟩ := h.mu p z
    rw [hp] at h2; cases h2
  have sm : Same H (upd H p o) := fun a u e => by rw [upd_ne (ne_of_none e hp)]; exact e
  have ee : Same (er ps (cl H0 H)) (er (ps ++ [p]) (cl H0 (upd H p o))) := fun a u e => by
    have e1 := ec_mono sm a u e
    have hap : a ≠ p := ne_of_none (ec_le a u e) hp
    unfold er at e1 ⊢
    split at e1
    · cases e1
    · rename_i z
      rw [if_neg fun y => ?_]
      · exact e1
      · rcases List.mem_append.mp y with y | y
        · exact z y
        · exact hap (by simpa using y)
  refine ⟨h.same.trans sm, fun q hq => ?_, ?_, fun j d e => ?_, fun i s e => ?_⟩
  · rcases List.mem_append.mp hq with y | y
    · obtain ⟨h1, o', h2, h3⟩ := h.mu q y
      exact ⟨h1, o', sm _ _ h2, h3⟩
    · obtain rfl : q = p := by simpa using y
      exact ⟨h.same.free hp, o, upd_same, ho⟩
  · exact List.nodup_append.mpr ⟨h.nd, by simp, fun a ha b hb z => hn (by
      have : b = p := by simpa using hb
      rw [← this, ← z]; exact ha)⟩
  · obtain ⟨q, h1, h2⟩ := h.ow j d e
    have hj : j < ps.length := (List.getElem?_eq_some_iff.mp h1).1
    refine ⟨q, by rw [List.getElem?_append_left hj]; exact h1, ?_⟩
    cases d <;> try exact h2.elim
    · obtain ⟨vs, h3, h4⟩ := h2
      exact ⟨vs, sm _ _ h3, RA.mono ee id h4⟩
    · obtain ⟨vs, h3, h4⟩ := h2
      exact ⟨vs, sm _ _ h3, RK.mono ee id h4⟩
  · have q := h.sl i s e
    cases s with
    | un => trivial
    | val d =>
      obtain ⟨v, h1, h2⟩ := q
      exact ⟨v, h1, R.mono ee id h2⟩
    | arg d => exact q
    | own j =>
      obtain ⟨p', h1, h2⟩ := q
      have hj : j < ps.length := (List.getElem?_eq_some_iff.mp h2).1
      exact ⟨p', h1, by rw [List.getElem?_append_left hj]; exact h2⟩
    | fld C f j =>
      obtain ⟨p', dx, q', h1, h2, h3, h4, h5⟩ := q
      have hj : j < ps.length := (List.getElem?_eq_some_iff.mp h4).1
      exact ⟨p', dx, q', h1, h2, sm _ _ h3, by rw [List.getElem?_append_left hj]; exact h4, fun z => (List.mem_append.mp z).elim h5 fun y => by
        obtain rfl : p' = p := by simpa using y
        rw [hp] at h3; cases h3⟩
theorem EnvR.made {H1 : Hp} (h : EnvR K H0 ps env σ H) (e : Same H H1) (r : R K false (cl H H1) v d) : R K false (er ps (cl H0 H1)) v d := by
  refine R.mono (fun a o q => ?_) id r
  have q2 := cl_base h.same a o q
  unfold er
  rw [if_neg fun z => ?_]
  · exact q2
  · obtain ⟨_, o', h2, h3⟩ := h.mu a z
    obtain ⟨vs, rfl, e2⟩ := cl_old h2 q
    have e3 := e _ _ h2
    rw [e2] at e3; cases e3
    exact h3
theorem EnvR.imm {H1 : Hp} (h : EnvR K H0 ps env σ H1) {b : Bool} {v : V} {d : D} (q : imm d = true) (r : R K b H1 v d) : R K false (er ps (cl H0 H1)) v d := by
  refine R.imm (fun a xs e => ?_) q r
  unfold er
  rw [if_neg fun z => ?_]
  · exact cl_tup e
  · obtain ⟨_, o', h2, h3⟩ := h.mu a z
    rw [e] at h2; cases h2; exact h3
theorem EnvR.immA {H1 : Hp} (h : EnvR K H0 ps env σ H1) {b : Bool} {v : List V} {d : List D} (q : immA d = true) (r : RA K b H1 v d) : RA K false (er ps (cl H0 H1)) v d := by
  refine RA.imm (fun a xs e => ?_) q r
  unfold er
  rw [if_neg fun z => ?_]
  · exact cl_tup e
  · obtain ⟨_, o', h2, h3⟩ := h.mu a z
    rw [e] at h2; cases h2; exact h3
theorem EnvR.at_new {p : Addr} {o : HO} (h : EnvR K H0 ps env σ H) (hp : H p = none) : er ps (cl H0 (upd H p o)) p = some o := by
  unfold er
  rw [if_neg fun z => ?_]
  · exact cl_new (h.same.free hp) upd_same
  · obtain ⟨_, o', h2, _⟩ := h.mu p z
    rw [hp] at h2; cases h2
theorem same_upd {p : Addr} {o : HO} (h : H p = none) : Same H (upd H p o) := fun a u e => by
  rw [upd_ne (ne_of_none e h)]; exact e
theorem RM.imm {H1 : Hp} {m : Md} (h : EnvR K H0 ps env σ H1) (q : DW.imm d = true) (r : RM K m H0 ps H1 v d) : R K false (er ps (cl H0 H1)) v d := h.imm q (RM.any h.same r)
end
def DM (X : Cx) (env : Env) (m : Md) (e : Expr) (d : D) : Prop := ∀ (H0 : Hp) (ps : List Addr) (σ : St) (H : Hp), EnvR X.K H0 ps env σ H → ∀ Q : VK, (∀ v H2, Same H H2 → RM X.K m H0 ps H2 v d → Q v H2) → wE X e σ H Q
def DT (X : Cx) (env : Env) (e : Expr) (b : Bool) : Prop := ∀ (H0 : Hp) (ps : List Addr) (σ : St) (H : Hp), EnvR X.K H0 ps env σ H → ∀ Q : Bool → Hp → Prop, (∀ H2, Same H H2 → Q b H2) → wT X e σ H Q
def DA (X : Cx) (env : Env) (m : Md) (es : List Expr) (ds : List D) : Prop := ∀ (H0 : Hp) (ps : List Addr) (σ : St) (H : Hp), EnvR X.K H0 ps env σ H → ∀ Q : List V → Hp → Prop, (∀ vs H2, Same H H2 → RMA X.K m H0 ps H2 vs ds → Q vs H2) → wA X es σ H Q
def DG (X : Cx) (env : Env) (m : Md) (tg : Expr) (d : D) (env' : Env) (J : List Nat) : Prop := ∀ (H0 : Hp) (ps : List Addr) (σ : St) (H : Hp) (v : V), EnvR X.K H0 ps env σ H → RM X.K m H0 ps H v d → ∀ Q : St → Hp → Prop, (∀ σ', EnvR X.K H0 ps env' σ' H → (∀ vs : List Nat, (∀ j ∈ J, j ∈ vs) → wipe σ' vs = wipe σ vs) → Q σ' H) → wG X tg v σ H Q
def DGs (X : Cx) (env : Env) (m : Md) (tg : List Expr) (d : List D) (env' : Env) (J : List Nat) : Prop := ∀ (H0 : Hp) (ps : List Addr) (σ : St) (H : Hp) (v : List V), EnvR X.K H0 ps env σ H → RMA X.K m H0 ps H v d → ∀ Q : St → Hp → Prop, (∀ σ', EnvR X.K H0 ps env' σ' H → (∀ vs : List Nat, (∀ j ∈ J, j ∈ vs) → wipe σ' vs = wipe σ vs) → Q σ' H) → wGs X tg v σ H Q
def Fr (ps : List Addr) (H : Hp) (ps' : List Addr) (H' : Hp) : Prop := ∀ a o, a ∉ ps → H a = some o → a ∉ ps' ∧ H' a = some o
structure ItOk (K : PySem.W.Frag) (J : It) (m : Md) (H0 : Hp) (ps : List Addr) (H1 : Hp) (ds : List D) : Prop where
  go : ∀ (i : Nat) (ps' : List Addr) (H : Hp) (d : D), Same H0 H → Fr ps H1 ps' H → ds[i]? = some d → J.go i H
  yld : ∀ (i : Nat) (ps' : List Addr) (H : Hp) (d : D) (x : V) (H' : Hp), Same H0 H → Fr ps H1 ps' H → (∀ p ∈ ps', ∃ o, H p = some o) → ds[i]? = some d → J.yld i H x H' → Same H H' ∧ RM K m H0 ps' H' x d
  stop : ∀ (i : Nat) (ps' : List Addr) (H : Hp), Same H0 H → Fr ps H1 ps' H → ds.length ≤ i → J.stop i H
def DI (X : Cx) (env : Env) (m : Md) (tg iter : Expr) (ds : List D) : Prop := ∀ (H0 : Hp) (ps : List Addr) (σ : St) (H : Hp), EnvR X.K H0 ps env σ H → ∀ R : It → Hp → Prop, (∀ J H1, Same H H1 → ItOk X.K J m H0 ps H1 ds → R J H1) → wI X tg iter σ H R
theorem Fr.refl (ps : List Addr) (H : Hp) : Fr ps H ps H := fun _ _ h1 h2 => ⟨h1, h2⟩
theorem Fr.trans {ps ps1 ps2 : List Addr} {H H1 H2 : Hp} (a : Fr ps H ps1 H1) (b : Fr ps1 H1 ps2 H2) : Fr ps H ps2 H2 := fun x o h1 h2 => by
  obtain ⟨q1, q2⟩ := a x o h1 h2
  exact b x o q1 q2
theorem Fr.of_same {ps : List Addr} {H H' : Hp} (e : Same H H') : Fr ps H ps H' := fun a o h1 h2 => ⟨h1, e a o h2⟩
theorem Fr.ec {H0 : Hp} {ps ps' : List Addr} {H H' : Hp} (f : Fr ps H ps' H') : Same (er ps (cl H0 H)) (er ps' (cl H0 H')) := fun a o e => by
  unfold er at e ⊢
  split at e
  · cases e
  · rename_i hn
    have h1 := cl_le H0 H a o e
    obtain ⟨q1, q2⟩ := f a o hn h1
    rw [if_neg q1]
    cases z : H0 a with
    | some u =>
      obtain ⟨vs, rfl, e2⟩ := cl_old z e
      exact cl_tup q2
    | none => exact cl_new z q2
theorem RM.fr {K : PySem.W.Frag} {m : Md} {H0 : Hp} {ps ps' : List Addr} {H H' : Hp} {v : V} {d : D} (f : Fr ps H ps' H') (hm : m ≠ .any) (h : RM K m H0 ps H v d) : RM K m H0 ps' H' v d := by
  cases m with
  | cl => exact R.mono f.ec id h
  | ar => exact h
  | any => exact absurd rfl hm
end DW
set_option Elab.async false
set_option linter.all false
set_option maxRecDepth 100000
set_option maxHeartbeats 2000000
namespace DW
open PySem PySem.Spec L2
section
variable {X : Cx} {env : Env} {m ma mb : Md} {a b e : Expr} {da db d : D} {pos : Pos} {K : PySem.W.Frag}
theorem slot_get {H0 : Hp} {ps : List Addr} {σ : St} {H : Hp} (E : EnvR K H0 ps env σ H) {i : Nat} {s : Slot} (h : env.1[i]? = some s) : SlotR K H0 ps H (σ[i]?) s := E.sl i s h
theorem dm_val (i : Nat) {x : Str} (h : env.1[i]? = some (.val d) := by rfl) (hN : X.N[i]? = some x := by rfl) (hv : Vis X.env.scope x := by first | exact Or.inl rfl | exact Or.inr (Or.inl rfl) | exact Or.inr (Or.inr rfl)) (hd : (x == ("__debug__" : Str)) = false := by decide)
    (hcd : (x == ("__classdict__" : Str)) = false := by decide) : DM X env .cl (.Name x pos) d := fun H0 ps σ H E Q q => by
  obtain ⟨v, h1, h2⟩ := E.sl i _ h
  exact (pe_var hN hv hd hcd).w ⟨v, h1, q v H (Same.refl H) h2⟩
theorem dm_arg (i : Nat) {x : Str} (h : env.1[i]? = some (.arg d) := by rfl) (hN : X.N[i]? = some x := by rfl) (hv : Vis X.env.scope x := by first | exact Or.inl rfl | exact Or.inr (Or.inl rfl) | exact Or.inr (Or.inr rfl)) (hd : (x == ("__debug__" : Str)) = false := by decide)
    (hcd : (x == ("__classdict__" : Str)) = false := by decide) : DM X env .ar (.Name x pos) d := fun H0 ps σ H E Q q => by
  obtain ⟨v, h1, h2⟩ := E.sl i _ h
  exact (pe_var hN hv hd hcd).w ⟨v, h1, q v H (Same.refl H) h2⟩
theorem dm_own (i : Nat) {x : Str} {j : Nat} (h : env.1[i]? = some (.own j) := by rfl) (h2 : env.2[j]? = some d := by rfl) (hN : X.N[i]? = some x := by rfl) (hv : Vis X.env.scope x := by first | exact Or.inl rfl | exact Or.inr (Or.inl rfl) | exact Or.inr (Or.inr rfl)) (hd : (x == ("__debug__" : Str)) = false := by decide)
    (hcd : (x == ("__classdict__" : Str)) = false := by decide) : DM X env .any (.Name x pos) d := fun H0 ps σ H E Q q => by
  obtain ⟨p, h3, h4⟩ := E.sl i _ h
  obtain ⟨p', h5, h6⟩ := E.ow j d h2
  have e : p' = p := Option.some.inj (h5.symm.trans h4)
  subst e
  refine (pe_var hN hv hd hcd).w ⟨_, h3, q _ H (Same.refl H) ?_⟩
  cases d <;> try exact h6.elim
  · obtain ⟨vs, z1, z2⟩ := h6
    exact .lst z1 (RA.mono (b := false) ec_le (fun z => nomatch z) z2)
  · obtain ⟨vs, z1, z2⟩ := h6
    exact .dic z1 (RK.mono (b := false) ec_le (fun z => nomatch z) z2)
theorem dm_int {i : Int} {j : Nat} : DM X env .cl (.Constant (.int i) j pos) (.int i) := fun H0 ps σ H E Q q => pe_int.w (q _ H (Same.refl H) (R.int i))
theorem dm_bl {i : Bool} {j : Nat} : DM X env .cl (.Constant (.bool i) j pos) (.bl i) := fun H0 ps σ H E Q q => pe_bl.w (q _ H (Same.refl H) (R.bl i))
theorem dm_non {j : Nat} : DM X env .cl (.Constant .none j pos) .non := fun H0 ps σ H E Q q => pe_non.w (q _ H (Same.refl H) R.non)
theorem dm_str {x : Str} {j : Nat} : DM X env .cl (.Constant (.str x) j pos) (.str x) := fun H0 ps σ H E Q q => pe_str.w (q _ H (Same.refl H) (R.str x))
theorem DM.to_any (h : DM X env m e d) : DM X env .any e d := fun H0 ps σ H E Q q => h H0 ps σ H E Q fun v H2 sm r => q v H2 sm (RM.any (E.same.trans sm) r)
theorem DM.imm (h : DM X env m e d) (hd : DW.imm d = true := by rfl) : DM X env .cl e d := fun H0 ps σ H E Q q => h H0 ps σ H E Q fun v H2 sm r => q v H2 sm (RM.imm (E.mono sm) hd r)
theorem DM.is {d' : D} (h : DM X env m e d) (q : d = d') : DM X env m e d' := q ▸ h
theorem dm_op {op : Operator} {r : R2} (ho : OpR X (binaryOp op) r) (ha : DM X env ma a da) (hb : DM X env mb b db)
    (h : ∀ (H0 : Hp) (ps : List Addr) (σ : St) (H : Hp), EnvR X.K H0 ps env σ H → ∀ v w, RM X.K ma H0 ps H v da → RM X.K mb H0 ps H w db → ∀ Q : VK, (∀ z H2, Same H H2 → RM X.K m H0 ps H2 z d → Q z H2) → r v w H Q) :
    DM X env m (.BinOp a op b pos) d := fun H0 ps σ H E Q q =>
  (pe_op ho pw_E pw_E).w (ha H0 ps σ H E _ fun v H1 s1 r1 => hb H0 ps σ H1 (E.mono s1) _ fun w H2 s2 r2 =>
    h H0 ps σ H2 (E.mono (s1.trans s2)) v w (RM.mono s2 r1) r2 Q fun z H3 s3 => q z H3 ((s1.trans s2).trans s3))
theorem dm_cmp {op : CmpOp} {r : R2} (ho : OpR X (compareOp op) r) (hm : behindInMarks op b = false) (ha : DM X env ma a da) (hb : DM X env mb b db)
    (h : ∀ (H0 : Hp) (ps : List Addr) (σ : St) (H : Hp), EnvR X.K H0 ps env σ H → ∀ v w, RM X.K ma H0 ps H v da → RM X.K mb H0 ps H w db → ∀ Q : VK, (∀ z H2, Same H H2 → RM X.K m H0 ps H2 z d → Q z H2) → r v w H Q) :
    DM X env m (.Compare a [op] [b] pos) d := fun H0 ps σ H E Q q =>
  (pe_cmpR ho pw_E pw_E hm).w (ha H0 ps σ H E _ fun v H1 s1 r1 => hb H0 ps σ H1 (E.mono s1) _ fun w H2 s2 r2 =>
    h H0 ps σ H2 (E.mono (s1.trans s2)) v w (RM.mono s2 r1) r2 Q fun z H3 s3 => q z H3 ((s1.trans s2).trans s3))
theorem dt_cmp {op : CmpOp} {r : R2} {k : Bool} (ho : OpR X (compareOp op) r) (hm : behindInMarks op b = false) (ha : DM X env ma a da) (hb : DM X env mb b db)
    (h : ∀ (H0 : Hp) (ps : List Addr) (σ : St) (H : Hp), EnvR X.K H0 ps env σ H → ∀ v w, RM X.K ma H0 ps H v da → RM X.K mb H0 ps H w db → ∀ Q : VK, (∀ z H2, Same H H2 → RM X.K .cl H0 ps H2 z (.bl k) → Q z H2) → r v w H Q) :
    DT X env (.Compare a [op] [b] pos) k := fun H0 ps σ H E Q q =>
  (pt_cmpR ho pw_E pw_E hm).w (ha H0 ps σ H E _ fun v H1 s1 r1 => hb H0 ps σ H1 (E.mono s1) _ fun w H2 s2 r2 =>
    h H0 ps σ H2 (E.mono (s1.trans s2)) v w (RM.mono s2 r1) r2 _ fun z H3 s3 r3 => ⟨k, R.blI r3, q H3 ((s1.trans s2).trans s3)⟩)
theorem op_I0 {g : Int → Int → Int} {i j : Int} {H0 : Hp} {ps : List Addr} {H : Hp} {v w : V} (r1 : RM K ma H0 ps H v (.int i)) (r2 : RM K mb H0 ps H w (.int j)) {Q : VK} (q : ∀ z H2, Same H H2 → RM K .cl H0 ps H2 z (.int (g i j)) → Q z H2) : rI0 (fun i j => .int (g i j)) v w H Q := by
  have e1 : v = .int i := by cases ma <;> exact R.intI r1
  have e2 : w = .int j := by cases mb <;> exact R.intI r2
  exact ⟨i, j, e1, e2, q _ H (Same.refl H) (R.int _)⟩
theorem op_I {C : Int → Int → Prop} {g : Int → Int → Int} {i j : Int} {H0 : Hp} {ps : List Addr} {H : Hp} {v w : V} (hc : C i j) (r1 : RM K ma H0 ps H v (.int i)) (r2 : RM K mb H0 ps H w (.int j)) {Q : VK} (q : ∀ z H2, Same H H2 → RM K .cl H0 ps H2 z (.int (g i j)) → Q z H2) : rI C (fun i j => .int (g i j)) v w H Q := by
  have e1 : v = .int i := by cases ma <;> exact R.intI r1
  have e2 : w = .int j := by cases mb <;> exact R.intI r2
  exact ⟨i, j, e1, e2, hc, q _ H (Same.refl H) (R.int _)⟩
theorem op_B0 {g : Int → Int → Bool} {i j : Int} {H0 : Hp} {ps : List Addr} {H : Hp} {v w : V} (r1 : RM K ma H0 ps H v (.int i)) (r2 : RM K mb H0 ps H w (.int j)) {Q : VK} (q : ∀ z H2, Same H H2 → RM K .cl H0 ps H2 z (.bl (g i j)) → Q z H2) : rI0 (fun i j => .bl (g i j)) v w H Q := by
  have e1 : v = .int i := by cases ma <;> exact R.intI r1
  have e2 : w = .int j := by cases mb <;> exact R.intI r2
  exact ⟨i, j, e1, e2, q _ H (Same.refl H) (R.bl _)⟩
variable {i j : Int}
theorem dm_add (ha : DM X env ma a (.int i)) (hb : DM X env mb b (.int j)) : DM X env .cl (.BinOp a .Add b pos) (.int (i + j)) := dm_op op_add ha hb fun _ _ _ _ _ _ _ r1 r2 _ q => op_I0 r1 r2 q
theorem dm_sub (ha : DM X env ma a (.int i)) (hb : DM X env mb b (.int j)) : DM X env .cl (.BinOp a .Sub b pos) (.int (i - j)) := dm_op op_sub ha hb fun _ _ _ _ _ _ _ r1 r2 _ q => op_I0 r1 r2 q
theorem dm_mul (ha : DM X env ma a (.int i)) (hb : DM X env mb b (.int j)) (hc : CMulX i j) : DM X env .cl (.BinOp a .Mult b pos) (.int (i * j)) := dm_op op_mulX ha hb fun _ _ _ _ _ _ _ r1 r2 _ q => op_I hc r1 r2 q
theorem dm_mulS (ha : DM X env ma a (.int i)) (hb : DM X env mb b (.int j)) (hc : CMul i j) : DM X env .cl (.BinOp a .Mult b pos) (.int (i * j)) := dm_op op_mul ha hb fun _ _ _ _ _ _ _ r1 r2 _ q => op_I hc r1 r2 q
theorem dm_mod (ha : DM X env ma a (.int i)) (hb : DM X env mb b (.int j)) (hc : 0 < j) : DM X env .cl (.BinOp a .Mod b pos) (.int (i % j)) := dm_op op_mod ha hb fun _ _ _ _ _ _ _ r1 r2 _ q => op_I (C := fun _ j => 0 < j) hc r1 r2 q
theorem dm_div (ha : DM X env ma a (.int i)) (hb : DM X env mb b (.int j)) (hc : CDivW i j) : DM X env .cl (.BinOp a .FloorDiv b pos) (.int (i / j)) := dm_op op_fdivW ha hb fun _ _ _ _ _ _ _ r1 r2 _ q => op_I hc r1 r2 q
theorem dm_pow (ha : DM X env ma a (.int i)) (hb : DM X env mb b (.int j)) (hc : CPow i j) : DM X env .cl (.BinOp a .Pow b pos) (.int (i ^ j.toNat)) := dm_op op_pow ha hb fun _ _ _ _ _ _ _ r1 r2 _ q => op_I hc r1 r2 q
theorem dm_lt (ha : DM X env ma a (.int i)) (hb : DM X env mb b (.int j)) : DM X env .cl (.Compare a [.Lt] [b] pos) (.bl (decide (i < j))) := dm_cmp op_lt (nomark _) ha hb fun _ _ _ _ _ _ _ r1 r2 _ q => op_B0 r1 r2 q
theorem dm_le (ha : DM X env ma a (.int i)) (hb : DM X env mb b (.int j)) : DM X env .cl (.Compare a [.LtE] [b] pos) (.bl (decide (i ≤ j))) := dm_cmp op_le (nomark _) ha hb fun _ _ _ _ _ _ _ r1 r2 _ q => op_B0 r1 r2 q
theorem dm_gt (ha : DM X env ma a (.int i)) (hb : DM X env mb b (.int j)) : DM X env .cl (.Compare a [.Gt] [b] pos) (.bl (decide (j < i))) := dm_cmp op_gt (nomark _) ha hb fun _ _ _ _ _ _ _ r1 r2 _ q => op_B0 r1 r2 q
theorem dm_ge (ha : DM X env ma a (.int i)) (hb : DM X env mb b (.int j)) : DM X env .cl (.Compare a [.GtE] [b] pos) (.bl (decide (j ≤ i))) := dm_cmp op_ge (nomark _) ha hb fun _ _ _ _ _ _ _ r1 r2 _ q => op_B0 r1 r2 q
theorem op_Eq {H0 : Hp} {ps : List Addr} {H : Hp} {v w : V} (r1 : RM K ma H0 ps H v (.int i)) (r2 : RM K mb H0 ps H w (.int j)) {Q : VK} (q : ∀ z H2, Same H H2 → RM K .cl H0 ps H2 z (.bl (decide (i = j))) → Q z H2) : rEq v w H Q := by
  have e1 : v = .int i := by cases ma <;> exact R.intI r1
  have e2 : w = .int j := by cases mb <;> exact R.intI r2
  subst e1; subst e2
  refine ⟨rfl, ?_⟩
  have z : decide (V.int i = V.int j) = decide (i = j) := by rw [dec_int]; by_cases h : i = j <;> simp [h]
  rw [z]
  exact q _ H (Same.refl H) (R.bl _)
theorem op_Ne {H0 : Hp} {ps : List Addr} {H : Hp} {v w : V} (r1 : RM K ma H0 ps H v (.int i)) (r2 : RM K mb H0 ps H w (.int j)) {Q : VK} (q : ∀ z H2, Same H H2 → RM K .cl H0 ps H2 z (.bl (!decide (i = j))) → Q z H2) : rNe v w H Q := by
  have e1 : v = .int i := by cases ma <;> exact R.intI r1
  have e2 : w = .int j := by cases mb <;> exact R.intI r2
  subst e1; subst e2
  refine ⟨rfl, ?_⟩
  have z : decide (V.int i = V.int j) = decide (i = j) := by rw [dec_int]; by_cases h : i = j <;> simp [h]
  rw [z]
  exact q _ H (Same.refl H) (R.bl _)
theorem dm_eq (ha : DM X env ma a (.int i)) (hb : DM X env mb b (.int j)) : DM X env .cl (.Compare a [.Eq] [b] pos) (.bl (decide (i = j))) := dm_cmp op_eq (nomark _) ha hb fun _ _ _ _ _ _ _ r1 r2 _ q => op_Eq r1 r2 q
theorem dm_ne (ha : DM X env ma a (.int i)) (hb : DM X env mb b (.int j)) : DM X env .cl (.Compare a [.NotEq] [b] pos) (.bl (!decide (i = j))) := dm_cmp op_ne (nomark _) ha hb fun _ _ _ _ _ _ _ r1 r2 _ q => op_Ne r1 r2 q
theorem dt_lt (ha : DM X env ma a (.int i)) (hb : DM X env mb b (.int j)) : DT X env (.Compare a [.Lt] [b] pos) (decide (i < j)) := dt_cmp op_lt (nomark _) ha hb fun _ _ _ _ _ _ _ r1 r2 _ q => op_B0 r1 r2 q
theorem dt_le (ha : DM X env ma a (.int i)) (hb : DM X env mb b (.int j)) : DT X env (.Compare a [.LtE] [b] pos) (decide (i ≤ j)) := dt_cmp op_le (nomark _) ha hb fun _ _ _ _ _ _ _ r1 r2 _ q => op_B0 r1 r2 q
theorem dt_gt (ha : DM X env ma a (.int i)) (hb : DM X env mb b (.int j)) : DT X env (.Compare a [.Gt] [b] pos) (decide (j < i)) := dt_cmp op_gt (nomark _) ha hb fun _ _ _ _ _ _ _ r1 r2 _ q => op_B0 r1 r2 q
theorem dt_ge (ha : DM X env ma a (.int i)) (hb : DM X env mb b (.int j)) : DT X env (.Compare a [.GtE] [b] pos) (decide (j ≤ i)) := dt_cmp op_ge (nomark _) ha hb fun _ _ _ _ _ _ _ r1 r2 _ q => op_B0 r1 r2 q
theorem dt_eq (ha : DM X env ma a (.int i)) (hb : DM X env mb b (.int j)) : DT X env (.Compare a [.Eq] [b] pos) (decide (i = j)) := dt_cmp op_eq (nomark _) ha hb fun _ _ _ _ _ _ _ r1 r2 _ q => op_Eq r1 r2 q
theorem dt_ne (ha : DM X env ma a (.int i)) (hb : DM X env mb b (.int j)) : DT X env (.Compare a [.NotEq] [b] pos) (!decide (i = j)) := dt_cmp op_ne (nomark _) ha hb fun _ _ _ _ _ _ _ r1 r2 _ q => op_Ne r1 r2 q
theorem RM.blI {H0 : Hp} {ps : List Addr} {H : Hp} {v : V} {k : Bool} (r : RM K m H0 ps H v (.bl k)) : v = .bl k := by cases m <;> exact R.blI r
theorem RM.intI {H0 : Hp} {ps : List Addr} {H : Hp} {v : V} {k : Int} (r : RM K m H0 ps H v (.int k)) : v = .int k := by cases m <;> exact R.intI r
variable {k l : Bool}
theorem dm_eqB (ha : DM X env ma a (.bl k)) (hb : DM X env mb b (.bl l)) : DM X env .cl (.Compare a [.Eq] [b] pos) (.bl (k == l)) := dm_cmp op_eq (nomark _) ha hb fun _ _ _ H _ v w r1 r2 Q q => by
  have e1 := r1.blI; have e2 := r2.blI
  subst e1; subst e2
  refine ⟨rfl, ?_⟩
  rw [dec_bl]
  exact q _ H (Same.refl H) (R.bl _)
theorem dt_eqB (ha : DM X env ma a (.bl k)) (hb : DM X env mb b (.bl l)) : DT X env (.Compare a [.Eq] [b] pos) (k == l) := dt_cmp op_eq (nomark _) ha hb fun _ _ _ H _ v w r1 r2 Q q => by
  have e1 := r1.blI; have e2 := r2.blI
  subst e1; subst e2
  refine ⟨rfl, ?_⟩
  rw [dec_bl]
  exact q _ H (Same.refl H) (R.bl _)
theorem dt_isB (ha : DM X env ma a (.bl k)) (hb : DM X env mb b (.bl l)) : DT X env (.Compare a [.Is] [b] pos) (decide (k = l)) := dt_cmp op_isBl (nomark _) ha hb fun _ _ _ H _ v w r1 r2 Q q =>
  ⟨k, l, r1.blI, r2.blI, q _ H (Same.refl H) (R.bl _)⟩
theorem dt_notB (ha : DM X env ma a (.bl k)) (hb : DM X env mb b (.bl l)) : DT X env (.Compare a [.IsNot] [b] pos) (!decide (k = l)) := dt_cmp op_notBl (nomark _) ha hb fun _ _ _ H _ v w r1 r2 Q q =>
  ⟨k, l, r1.blI, r2.blI, q _ H (Same.refl H) (R.bl _)⟩
theorem DT.is {k k' : Bool} (h : DT X env e k) (q : k = k') : DT X env e k' := q ▸ h
theorem dt_val (h : DM X env m e (.bl k)) (he : ∀ whole, isTrue e X.env whole = (do let v ← whole; standAt e.pos; holding [v] (truthy v)) := by intro _; rfl) : DT X env e k := fun H0 ps σ H E Q q =>
  (pt_val pw_E he).w (h H0 ps σ H E _ fun v H2 sm r => ⟨k, r.blI, q H2 sm⟩)
theorem dt_not (h : DT X env a k) : DT X env (.UnaryOp .Not a pos) (!k) := fun H0 ps σ H E Q q => (pt_not pw_T).w (h H0 ps σ H E _ fun H2 sm => q H2 sm)
structure WW (X : Cx) (e : Expr) (σ : L2.St) (H : Hp) (Q : Bool → Hp → Prop) : Prop where
  run : ∀ (whole : Sem Value) pins s, Inv X pins σ H s → wpAny (model X.prog X.w) X.A (isTrue e X.env whole) (TP X pins σ Q) X.xe s
abbrev wW (X : Cx) (e : Expr) : TT := WW X e
def DW' (X : Cx) (env : Env) (e : Expr) (b : Bool) : Prop := ∀ (H0 : Hp) (ps : List Addr) (σ : St) (H : Hp), EnvR X.K H0 ps env σ H → ∀ Q : Bool → Hp → Prop, (∀ H2, Same H H2 → Q b H2) → wW X e σ H Q
theorem DW'.dt (h : DW' X env e k) : DT X env e k := fun H0 ps σ H E Q q => ⟨fun pins s I => (h H0 ps σ H E Q q).run _ pins s I⟩
theorem pw_W : PW X e (wW X e) := ⟨fun whole pins s σ H Q I h => h.run whole pins s I⟩
theorem _root_.L2.PW.w {t : TT} {σ : St} {H : Hp} {Q : Bool → Hp → Prop} (h : PW X e t) (q : t σ H Q) : wW X e σ H Q := ⟨fun whole pins s I => h.run whole pins s σ H Q I q⟩
variable {rest : List Expr}
theorem dw_and1 (h : DT X env a k) : DW' X env (.BoolOp .And [a] pos) k := fun H0 ps σ H E Q q => (pw_and1 pw_T).w (h H0 ps σ H E Q q)
theorem dw_or1 (h : DT X env a k) : DW' X env (.BoolOp .Or [a] pos) k := fun H0 ps σ H E Q q => (pw_or1 pw_T).w (h H0 ps σ H E Q q)
theorem dw_and (h : DT X env a k) (h2 : k = true → DW' X env (.BoolOp .And (b :: rest) pos) l) : DW' X env (.BoolOp .And (a :: b :: rest) pos) (k && l) := fun H0 ps σ H E Q q =>
  (pw_and pw_T pw_W).w (h H0 ps σ H E _ fun H2 sm => by
    cases k with
    | true =>
      rw [if_pos rfl]
      exact h2 rfl H0 ps σ H2 (E.mono sm) Q (fun H3 s3 => q H3 (sm.trans s3))
    | false =>
      rw [if_neg Bool.false_ne_true]
      exact q H2 sm)
theorem dw_or (h : DT X env a k) (h2 : k = false → DW' X env (.BoolOp .Or (b :: rest) pos) l) : DW' X env (.BoolOp .Or (a :: b :: rest) pos) (k || l) := fun H0 ps σ H E Q q =>
  (pw_or pw_T pw_W).w (h H0 ps σ H E _ fun H2 sm => by
    cases k with
    | false =>
      rw [if_neg Bool.false_ne_true]
      exact h2 rfl H0 ps σ H2 (E.mono sm) Q (fun H3 s3 => q H3 (sm.trans s3))
    | true =>
      rw [if_pos rfl]
      exact q H2 sm)
theorem dt_and (h : DT X env a k) (h2 : k = true → DT X env b l) : DT X env (.BoolOp .And [a, b] pos) (k && l) := (dw_and h fun z => dw_and1 (h2 z)).dt
theorem dt_or (h : DT X env a k) (h2 : k = false → DT X env b l) : DT X env (.BoolOp .Or [a, b] pos) (k || l) := (dw_or h fun z => dw_or1 (h2 z)).dt
theorem dm_one {op : BoolOp} (h : DM X env m a d) : DM X env m (.BoolOp op [a] pos) d := fun H0 ps σ H E Q q => (pe_one pw_E).w (h H0 ps σ H E Q q)
theorem dm_and (h : DM X env ma a (.bl k)) (h2 : k = true → DM X env .cl (.BoolOp .And (b :: rest) pos) (.bl l)) : DM X env .cl (.BoolOp .And (a :: b :: rest) pos) (.bl (k && l)) := fun H0 ps σ H E Q q =>
  (pe_and pw_E pw_E).w (h H0 ps σ H E _ fun v H2 sm r => ⟨k, r.blI, by
    cases k with
    | true =>
      rw [if_pos rfl]
      exact h2 rfl H0 ps σ H2 (E.mono sm) Q fun v H3 s3 => q v H3 (sm.trans s3)
    | false =>
      rw [if_neg Bool.false_ne_true]
      exact q _ H2 sm (R.bl _)⟩)
theorem dm_or (h : DM X env ma a (.bl k)) (h2 : k = false → DM X env .cl (.BoolOp .Or (b :: rest) pos) (.bl l)) : DM X env .cl (.BoolOp .Or (a :: b :: rest) pos) (.bl (k || l)) := fun H0 ps σ H E Q q =>
  (pe_or pw_E pw_E).w (h H0 ps σ H E _ fun v H2 sm r => ⟨k, r.blI, by
    cases k with
    | false =>
      rw [if_neg Bool.false_ne_true]
      exact h2 rfl H0 ps σ H2 (E.mono sm) Q fun v H3 s3 => q v H3 (sm.trans s3)
    | true =>
      rw [if_pos rfl]
      exact q _ H2 sm (R.bl _)⟩)
theorem dm_not (h : DM X env m a (.bl k)) : DM X env .cl (.UnaryOp .Not a pos) (.bl (!k)) := fun H0 ps σ H E Q q => (pe_not pw_E).w (h H0 ps σ H E _ fun v H2 sm r => ⟨k, r.blI, q _ H2 sm (R.bl _)⟩)
theorem dm_if {c : Expr} (h : DT X env c k) (h1 : k = true → DM X env m a d) (h2 : k = false → DM X env m b d) : DM X env m (.IfExp c a b pos) d := fun H0 ps σ H E Q q =>
  (pe_ifExp pw_T pw_E pw_E).w (h H0 ps σ H E _ fun H2 sm => by
    cases k with
    | true =>
      rw [if_pos rfl]
      exact h1 rfl H0 ps σ H2 (E.mono sm) Q fun v H3 s3 => q v H3 (sm.trans s3)
    | false =>
      rw [if_neg Bool.false_ne_true]
      exact h2 rfl H0 ps σ H2 (E.mono sm) Q fun v H3 s3 => q v H3 (sm.trans s3))
theorem dm_neg (h : DM X env m a (.int i)) : DM X env .cl (.UnaryOp .USub a pos) (.int (-i)) := fun H0 ps σ H E Q q => (pe_un un_neg pw_E).w (h H0 ps σ H E _ fun v H2 sm r => ⟨i, r.intI, q _ H2 sm (R.int _)⟩)
theorem da_nil : DA X env m [] [] := fun H0 ps σ H E Q q => pa_nil.w (q [] H (Same.refl H) (by cases m <;> exact RA.nil))
theorem da_cons {es : List Expr} {ds : List D} (h : DM X env m e d) (hr : DA X env m es ds) (hs : starEach (e :: es) X.env = (false, eval e X.env) :: starEach es X.env := by rfl) : DA X env m (e :: es) (d :: ds) := fun H0 ps σ H E Q q =>
  (pa_cons pw_E pw_A hs).w (h H0 ps σ H E _ fun v H1 s1 r1 => hr H0 ps σ H1 (E.mono s1) _ fun vs H2 s2 r2 => q _ H2 (s1.trans s2) (by
    have z := RM.mono s2 r1
    cases m <;> exact RA.cons z r2))
theorem da_any {es : List Expr} {ds : List D} (h : DM X env m e d) (hr : DA X env .any es ds) (hs : starEach (e :: es) X.env = (false, eval e X.env) :: starEach es X.env := by rfl) : DA X env .any (e :: es) (d :: ds) := da_cons h.to_any hr hs
theorem dm_tup {es : List Expr} {ds : List D} {k : Nat} (h : DA X env .cl es ds) (hl : ds.length ≤ 100000 := by decide) : DM X env .cl (.Tuple es k pos) (.tup ds) := fun H0 ps σ H E Q q =>
  (pe_tup pw_A).w (h H0 ps σ H E _ fun vs H1 s1 r1 => ⟨by rw [RA.length r1]; exact Nat.le_trans hl (by decide), fun p hp =>
    q _ _ (s1.trans (same_upd hp)) (.tup ((E.mono s1).at_new hp) (RA.mono (ec_mono (same_upd hp)) id r1))⟩)
theorem dm_lst {es : List Expr} {ds : List D} (h : DA X env .cl es ds) (hl : ds.length ≤ 100000 := by decide) : DM X env .cl (.List es pos) (.lst ds) := fun H0 ps σ H E Q q =>
  (pe_lst pw_A).w (h H0 ps σ H E _ fun vs H1 s1 r1 => ⟨by rw [RA.length r1]; exact Nat.le_trans hl (by decide), fun p hp =>
    q _ _ (s1.trans (same_upd hp)) (.lst ((E.mono s1).at_new hp) (RA.mono (ec_mono (same_upd hp)) id r1))⟩)
end
end DW
set_option Elab.async false
set_option linter.all false
set_option maxRecDepth 100000
set_option maxHeartbeats 2000000
namespace DW
open PySem PySem.Spec L2
theorem szl {n : Nat} (h : n ≤ 100000) : n ≤ sizeLine := Nat.le_trans h (by decide)
theorem szlt {n : Nat} (h : n < 100000) : n < sizeLine := Nat.lt_of_lt_of_le h (by decide)
def cutL {α : Type} (xs : List α) (lo hi : Option Int) : List α := (xs.drop (HT.sIx xs.length 0 lo)).take (HT.sIx xs.length xs.length hi - HT.sIx xs.length 0 lo)
section
variable {X : Cx} {env : Env} {m ma mb : Md} {a b e : Expr} {da db d : D} {pos : Pos} {K : PySem.W.Frag} {ds es' : List D} {H0 H : Hp} {ps : List Addr} {σ : St} {v : V}
theorem RM.seq (r : RM K m H0 ps H v (.lst ds)) (sm : Same H0 H) : ∃ p xs, v = .ref p ∧ SqL K H p xs ∧ RA K true H xs ds := R.seq (RM.any sm r)
theorem RM.tupI (r : RM K m H0 ps H v (.tup ds)) (sm : Same H0 H) : ∃ p xs, v = .ref p ∧ H p = some (.tup xs) ∧ RMA K m H0 ps H xs ds := by
  cases m with
  | cl => obtain ⟨p, xs, e, h, q⟩ := R.tupI r; exact ⟨p, xs, e, ec_le _ _ h, q⟩
  | ar => obtain ⟨p, xs, e, h, q⟩ := R.tupI r; exact ⟨p, xs, e, sm _ _ h, q⟩
  | any => exact R.tupI r
theorem RM.seqM (r : RM K m H0 ps H v (.lst ds)) (sm : Same H0 H) : ∃ p xs, v = .ref p ∧ SqL K H p xs ∧ RMA K m H0 ps H xs ds := by
  cases m with
  | cl => obtain ⟨p, xs, e, h, q⟩ := R.lstI r; exact ⟨p, xs, e, SqL.of (ec_le _ _ h), q⟩
  | ar => obtain ⟨p, xs, e, h, q⟩ := R.seq r; exact ⟨p, xs, e, sm.seq h, q⟩
  | any => exact R.seq r
theorem RM.lstC (r : RM K .cl H0 ps H v (.lst ds)) : ∃ p xs, v = .ref p ∧ H p = some (.lst xs) ∧ RA K false (er ps (cl H0 H)) xs ds := by
  obtain ⟨p, xs, e, h, q⟩ := R.lstI r
  exact ⟨p, xs, e, ec_le _ _ h, q⟩
theorem dm_len {x1 : Pos} (ml : X.mg "len" = none) (h : DM X env m e (.lst ds)) (hg : Gl X "len" := by rfl) (he : starEach (e :: []) X.env = (false, eval e X.env) :: starEach [] X.env := by rfl) (hpl : (backTo pos (starEach [] X.env)).any (·.1) = false := by rfl) :
    DM X env .cl (.Call (.Name "len" x1) [e] [] pos) (.int ds.length) := fun H0 ps σ H E Q q =>
  (pe_callB call_len_seq hg ml PySem.boot_len pw_A (he := he) (hpl := hpl)).w ((da_any h da_nil he) H0 ps σ H E _ fun vs H1 s1 r1 => by
    obtain ⟨v, rfl, r⟩ : ∃ v, vs = [v] ∧ R X.K true H1 v (.lst ds) := by
      cases r1 with
      | cons r q => cases q; exact ⟨_, rfl, r⟩
    obtain ⟨p, xs, rfl, hs, ra⟩ := R.seq r
    refine ⟨p, xs, rfl, .inl hs, ?_⟩
    rw [RA.length ra]
    exact q _ H1 s1 (R.int _))
theorem dm_lenT {x1 : Pos} (ml : X.mg "len" = none) (h : DM X env m e (.tup ds)) (hg : Gl X "len" := by rfl) (he : starEach (e :: []) X.env = (false, eval e X.env) :: starEach [] X.env := by rfl) (hpl : (backTo pos (starEach [] X.env)).any (·.1) = false := by rfl) :
    DM X env .cl (.Call (.Name "len" x1) [e] [] pos) (.int ds.length) := fun H0 ps σ H E Q q =>
  (pe_callB call_len_seq hg ml PySem.boot_len pw_A (he := he) (hpl := hpl)).w ((da_any h da_nil he) H0 ps σ H E _ fun vs H1 s1 r1 => by
    obtain ⟨v, rfl, r⟩ : ∃ v, vs = [v] ∧ R X.K true H1 v (.tup ds) := by
      cases r1 with
      | cons r q => cases q; exact ⟨_, rfl, r⟩
    obtain ⟨p, xs, rfl, hs, ra⟩ := R.tupI r
    refine ⟨p, xs, rfl, .inr (SqT.of hs), ?_⟩
    rw [RA.length ra]
    exact q _ H1 s1 (R.int _))
theorem dm_callB {r : List V → Hp → VK → Prop} {x : Str} {x1 : Pos} {id : String} {es : List Expr} (hc : CallR X (.builtin id) r) (hg : Gl X x) (hm : X.mg x = none) (hv : bootBuiltins x = some (.builtin id)) (ha : DA X env m (e :: es) ds)
    (h : ∀ H0 ps σ H, EnvR X.K H0 ps env σ H → ∀ vs, RMA X.K m H0 ps H vs ds → ∀ Q : VK, (∀ v H2, Same H H2 → RM X.K mb H0 ps H2 v d → Q v H2) → r vs H Q) (hn : x ≠ "__name__" := by decide) (hdb : (x == ("__debug__" : Str)) = false := by decide)
    (he : starEach (e :: es) X.env = (false, eval e X.env) :: starEach es X.env := by rfl) (hpl : (backTo pos (starEach es X.env)).any (·.1) = false := by rfl) :
    DM X env mb (.Call (.Name x x1) (e :: es) [] pos) d := fun H0 ps σ H E Q q =>
  (pe_callB hc hg hm hv pw_A hn hdb he hpl).w (ha H0 ps σ H E _ fun vs H1 s1 r1 => h H0 ps σ H1 (E.mono s1) vs r1 Q fun v H2 s2 => q v H2 (s1.trans s2))
theorem dm_callTy {r : List V → Hp → VK → Prop} {x : Str} {x1 : Pos} {id : String} {es : List Expr} (hc : CallR X (.type id) r) (hg : Gl X x) (hm : X.mg x = none) (hv : bootBuiltins x = some (.type id)) (ha : DA X env m (e :: es) ds)
    (h : ∀ H0 ps σ H, EnvR X.K H0 ps env σ H → ∀ vs, RMA X.K m H0 ps H vs ds → ∀ Q : VK, (∀ v H2, Same H H2 → RM X.K mb H0 ps H2 v d → Q v H2) → r vs H Q) (hn : x ≠ "__name__" := by decide) (hdb : (x == ("__debug__" : Str)) = false := by decide)
    (he : starEach (e :: es) X.env = (false, eval e X.env) :: starEach es X.env := by rfl) (hpl : (backTo pos (starEach es X.env)).any (·.1) = false := by rfl) :
    DM X env mb (.Call (.Name x x1) (e :: es) [] pos) d := fun H0 ps σ H E Q q =>
  (pe_callTy hc hg hm hv pw_A hn hdb he hpl).w (ha H0 ps σ H E _ fun vs H1 s1 r1 => h H0 ps σ H1 (E.mono s1) vs r1 Q fun v H2 s2 => q v H2 (s1.trans s2))
theorem RMA.one {vs : List V} (r : RMA K m H0 ps H vs [d]) : ∃ v, vs = [v] ∧ RM K m H0 ps H v d := by
  cases m <;> (cases r with | cons r q => cases q; exact ⟨_, rfl, r⟩)
theorem RMA.two {vs : List V} (r : RMA K m H0 ps H vs [da, db]) : ∃ v w, vs = [v, w] ∧ RM K m H0 ps H v da ∧ RM K m H0 ps H w db := by
  cases m <;> (cases r with | cons r q => cases q with | cons r2 q => cases q; exact ⟨_, _, rfl, r, r2⟩)
theorem RMA.get {vs : List V} {i : Nat} (r : RMA K m H0 ps H vs ds) (h : ds[i]? = some d) : ∃ v, vs[i]? = some v ∧ RM K m H0 ps H v d := by
  cases m <;> exact RA.get r h
theorem RMA.length {vs : List V} (r : RMA K m H0 ps H vs ds) : vs.length = ds.length := by
  cases m <;> exact RA.length r
theorem atI_of {α β : Type} {xs : List α} {ys : List β} {i : Int} {y : β} (hl : xs.length = ys.length) (h : atI ys i = some y) : ∃ j, ixN xs.length i = some j ∧ ys[j]? = some y := by
  unfold atI at h
  rw [hl]
  cases e : ixN ys.length i with
  | none => rw [e] at h; simp at h
  | some j => rw [e] at h; exact ⟨j, rfl, by simpa using h⟩
theorem dm_ix {i : Int} (ha : DM X env ma a (.lst ds)) (hb : DM X env mb b (.int i)) (h : atI ds i = some d) (hs : PlainIx b := by intro _ _; rfl) : DM X env ma (.Subscript a b pos) d := fun H0 ps σ H E Q q =>
  (pe_ix ix_list pw_E pw_E hs).w (ha H0 ps σ H E _ fun v H1 s1 r1 => hb H0 ps σ H1 (E.mono s1) _ fun w H2 s2 r2 => by
    have r1' := RM.mono s2 r1
    obtain ⟨p, xs, rfl, hsq, ra⟩ := RM.seqM r1' ((E.mono s1).mono s2).same
    obtain ⟨j, e1, e2⟩ := atI_of (RMA.length ra) h
    obtain ⟨y, e3, e4⟩ := RMA.get ra e2
    refine ⟨p, xs, i, y, rfl, r2.intI, hsq, ?_, q y H2 (s1.trans s2) e4⟩
    unfold atI
    rw [e1]
    exact e3)
theorem dm_ixT {i : Int} (ha : DM X env ma a (.tup ds)) (hb : DM X env mb b (.int i)) (h : atI ds i = some d) (hs : PlainIx b := by intro _ _; rfl) : DM X env ma (.Subscript a b pos) d := fun H0 ps σ H E Q q =>
  (pe_ix ix_tup pw_E pw_E hs).w (ha H0 ps σ H E _ fun v H1 s1 r1 => hb H0 ps σ H1 (E.mono s1) _ fun w H2 s2 r2 => by
    have r1' := RM.mono s2 r1
    obtain ⟨p, xs, rfl, hsq, ra⟩ := RM.tupI r1' ((E.mono s1).mono s2).same
    obtain ⟨j, e1, e2⟩ := atI_of (RMA.length ra) h
    obtain ⟨y, e3, e4⟩ := RMA.get ra e2
    refine ⟨p, xs, i, y, rfl, r2.intI, SqT.of hsq, ?_, q y H2 (s1.trans s2) e4⟩
    unfold atI
    rw [e1]
    exact e3)
def DO (X : Cx) (env : Env) (e : Option Expr) (o : Option Int) : Prop := match e, o with
  | none, none => True
  | some e, some i => ∃ m, DM X env m e (.int i)
  | _, _ => False
theorem do_none : DO X env none none := trivial
theorem do_some {i : Int} (h : DM X env m e (.int i)) : DO X env (some e) (some i) := ⟨m, h⟩
theorem DO.run {e : Option Expr} {o : Option Int} (h : DO X env e o) : ∃ t, PO X e t ∧ ∀ H0 ps σ H, EnvR X.K H0 ps env σ H → ∀ Q : Option Int → Hp → Prop, (∀ H2, Same H H2 → Q o H2) → t σ H Q := by
  cases e with
  | none =>
    cases o with
    | none => exact ⟨_, po_none, fun H0 ps σ H E Q q => q H (Same.refl H)⟩
    | some i => exact h.elim
  | some e =>
    cases o with
    | none => exact h.elim
    | some i =>
      obtain ⟨m, h⟩ := h
      exact ⟨_, po_some pw_E, fun H0 ps σ H E Q q => h H0 ps σ H E _ fun v H1 s1 r1 => ⟨i, r1.intI, q H1 s1⟩⟩
theorem RA.cut {b : Bool} {xs : List V} {ds : List D} (r : RA K b H xs ds) (lo hi : Option Int) : RA K b H (cutV xs lo hi) (cutL ds lo hi) := by
  unfold cutV cutL
  rw [RA.length r]
  exact RA.take _ (RA.drop _ r)
theorem immA_cut {ds : List D} {lo hi : Option Int} (h : immA ds = true) : immA (cutL ds lo hi) = true := by
  rw [immA_iff] at h ⊢
  exact fun d hd => h d (List.mem_of_mem_drop (List.mem_of_mem_take hd))
theorem dm_slice {lo hi : Option Expr} {l u : Option Int} {p2 : Pos} (ha : DM X env ma a (.lst ds)) (hi' : ma = .cl ∨ immA ds = true) (hl : DO X env lo l) (hu : DO X env hi u) : DM X env .cl (.Subscript a (.Slice lo hi none p2) pos) (.lst (cutL ds l u)) := fun H0 ps σ H E Q q => by
  obtain ⟨tl, pl, ql⟩ := hl.run
  obtain ⟨tu, pu, qu⟩ := hu.run
  refine (pe_slice sl_list pw_E pl pu).w (ha H0 ps σ H E _ fun v H1 s1 r1 => ql H0 ps σ H1 (E.mono s1) _ fun H2 s2 => qu H0 ps σ H2 ((E.mono s1).mono s2) _ fun H3 s3 => ?_)
  have E3 := ((E.mono s1).mono s2).mono s3
  have r3 := RM.mono (s2.trans s3) r1
  have sm := (s1.trans s2).trans s3
  obtain ⟨p, xs, rfl, hsq, ra⟩ := RM.seqM r3 E3.same
  have ra2 : RA X.K false (er ps (cl H0 H3)) (cutV xs l u) (cutL ds l u) := by
    rcases hi' with z | z
    · subst z; exact RA.cut ra l u
    · exact E3.immA (immA_cut z) (RA.cut (RMA.any E3.same ra) l u)
  exact ⟨p, xs, rfl, hsq, fun x hx => q _ _ (sm.trans (same_upd hx)) (.lst (E3.at_new hx) (RA.mono (ec_mono (same_upd hx)) id ra2))⟩
theorem immA_rev {ds : List D} (h : immA ds = true) : immA ds.reverse = true := by
  rw [immA_iff] at h ⊢
  exact fun d hd => h d (List.mem_reverse.mp hd)
theorem dm_rev {k : Nat} {p1 p2 p3 : Pos} (ha : DM X env ma e (.lst ds)) (hi' : ma = .cl ∨ immA ds = true) : DM X env .cl (.Subscript e (.Slice none none (some (.UnaryOp .USub (.Constant (.int 1) k p1) p2)) p3) pos) (.lst ds.reverse) := fun H0 ps σ H E Q q => by
  refine (pe_revL pw_E).w (ha H0 ps σ H E _ fun v H1 s1 r1 => ?_)
  have E1 := E.mono s1
  obtain ⟨p, xs, rfl, hsq, ra⟩ := RM.seqM r1 E1.same
  have ra2 : RA X.K false (er ps (cl H0 H1)) xs.reverse ds.reverse := by
    rcases hi' with z | z
    · subst z; exact RA.reverse ra
    · exact E1.immA (immA_rev z) (RA.reverse (RMA.any E1.same ra))
  exact ⟨p, xs, rfl, hsq, fun x hx => q _ _ (s1.trans (same_upd hx)) (.lst (E1.at_new hx) (RA.mono (ec_mono (same_upd hx)) id ra2))⟩
theorem dm_cat (ha : DM X env .cl a (.lst ds)) (hb : DM X env .cl b (.lst es')) (hl : ds.length + es'.length ≤ 100000) : DM X env .cl (.BinOp a .Add b pos) (.lst (ds ++ es')) :=
  dm_op op_cat ha hb fun H0 ps σ H E v w r1 r2 Q q => by
    obtain ⟨p, xs, rfl, h1, q1⟩ := RM.lstC r1
    obtain ⟨p', ys, rfl, h2, q2⟩ := RM.lstC r2
    refine ⟨p, p', xs, ys, rfl, rfl, h1, h2, szl (by rw [RA.length q1, RA.length q2]; exact hl), fun x hx => ?_⟩
    exact q _ _ (same_upd hx) (.lst (E.at_new hx) (RA.mono (ec_mono (same_upd hx)) id (RA.append q1 q2)))
theorem RA.rep {b : Bool} {xs : List V} {ds : List D} (r : RA K b H xs ds) : ∀ n : Nat, RA K b H (List.replicate n xs).flatten (List.replicate n ds).flatten
  | 0 => .nil
  | n + 1 => by
    rw [List.replicate_succ, List.replicate_succ, List.flatten_cons, List.flatten_cons]
    exact RA.append r (RA.rep r n)
theorem dm_rep {k : Int} (ha : DM X env .cl a (.lst ds)) (hb : DM X env mb b (.int k)) (h1 : -(2 ^ 63) ≤ k) (h2 : k < 2 ^ 63) (hl : ds.length * k.toNat ≤ 100000) : DM X env .cl (.BinOp a .Mult b pos) (.lst (List.replicate k.toNat ds).flatten) :=
  dm_op op_rep ha hb fun H0 ps σ H E v w r1 r2 Q q => by
    obtain ⟨p, xs, rfl, h3, q1⟩ := RM.lstC r1
    refine ⟨p, k, xs, rfl, r2.intI, h3, h1, h2, szl (by rw [RA.length q1]; exact hl), fun x hx => ?_⟩
    exact q _ _ (same_upd hx) (.lst (E.at_new hx) (RA.mono (ec_mono (same_upd hx)) id (RA.rep q1 _)))
mutual
def toPy : D → PyData
  | .non => .none | .bl b => .bool b | .int i => .int i | .str x => .str x
  | .lst ds => .list (toPys ds) | .tup ds => .tuple (toPys ds)
  | .dic _ => .dict [] | .obj _ _ _ => .none | .opq _ => .none
def toPys : List D → List PyData
  | [] => []
  | d :: ds => toPy d :: toPys ds
end
mutual
def pl : D → Bool
  | .non => true | .bl _ => true | .int _ => true | .str _ => true
  | .lst ds => plA ds | .tup ds => plA ds
  | .dic _ => false | .obj _ _ _ => false | .opq _ => false
def plA : List D → Bool
  | [] => true
  | d :: ds => pl d && plA ds
end
mutual
theorem R.dp {b : Bool} : ∀ {v : V} {d : D}, pl d = true → R K b H v d → Dp K H v (toPy d)
  | _, _, _, .non => by rw [toPy]; exact .non
  | _, _, _, .bl k => by rw [toPy]; exact .bl k
  | _, _, _, .int i => by rw [toPy]; exact .int i
  | _, _, _, .str x => by rw [toPy]; exact .str x
  | _, _, p, .lst h r => by rw [toPy]; exact .lst (SqL.of h) (RA.dp (by simpa [pl] using p) r)
  | _, _, p, .tup h r => by rw [toPy]; exact .tup (SqT.of h) (RA.dp (by simpa [pl] using p) r)
  | _, _, p, .dic h r => by simp [pl] at p
  | _, _, p, .obj h r => by simp [pl] at p
  | _, _, p, .opq _ => by simp [pl] at p
  | _, _, p, .scr (ns := ns) _ h q => by
    subst q
    rw [toPy]
    refine .lst h ?_
    exact RA.dp (b := b) (by simpa [pl] using p) RA.ints
theorem RA.dp {b : Bool} : ∀ {v : List V} {d : List D}, plA d = true → RA K b H v d → DpAll K H v (toPys d)
  | _, _, _, .nil => by rw [toPys]; exact .nil
  | _, _, p, .cons h r => by
    rw [plA, Bool.and_eq_true] at p
    rw [toPys]
    exact .cons (R.dp p.1 h) (RA.dp p.2 r)
end
def cmpOk (d : D) : Bool := pl d && SeqAt.shaped (toPy d)
theorem dm_eqD (hu : X.A.units + 64 < cLine) (ha : DM X env ma a da) (hb : DM X env mb b db) (ca : cmpOk da = true) (cb : cmpOk db = true) : DM X env .cl (.Compare a [.Eq] [b] pos) (.bl (PyData.eqv (toPy da) (toPy db))) :=
  dm_cmp (op_eqD hu) (nomark _) ha hb fun H0 ps σ H E v w r1 r2 Q q => by
    rw [cmpOk, Bool.and_eq_true] at ca cb
    exact ⟨_, _, R.dp ca.1 (RM.any E.same r1), R.dp cb.1 (RM.any E.same r2), ca.2, cb.2, q _ H (Same.refl H) (R.bl _)⟩
theorem dm_neD (hu : X.A.units + 64 < cLine) (ha : DM X env ma a da) (hb : DM X env mb b db) (ca : cmpOk da = true) (cb : cmpOk db = true) : DM X env .cl (.Compare a [.NotEq] [b] pos) (.bl (!PyData.eqv (toPy da) (toPy db))) :=
  dm_cmp (op_neD hu) (nomark _) ha hb fun H0 ps σ H E v w r1 r2 Q q => by
    rw [cmpOk, Bool.and_eq_true] at ca cb
    exact ⟨_, _, R.dp ca.1 (RM.any E.same r1), R.dp cb.1 (RM.any E.same r2), ca.2, cb.2, q _ H (Same.refl H) (R.bl _)⟩
theorem dt_eqD (hu : X.A.units + 64 < cLine) (ha : DM X env ma a da) (hb : DM X env mb b db) (ca : cmpOk da = true) (cb : cmpOk db = true) : DT X env (.Compare a [.Eq] [b] pos) (PyData.eqv (toPy da) (toPy db)) :=
  dt_cmp (op_eqD hu) (nomark _) ha hb fun H0 ps σ H E v w r1 r2 Q q => by
    rw [cmpOk, Bool.and_eq_true] at ca cb
    exact ⟨_, _, R.dp ca.1 (RM.any E.same r1), R.dp cb.1 (RM.any E.same r2), ca.2, cb.2, q _ H (Same.refl H) (R.bl _)⟩
theorem dt_neD (hu : X.A.units + 64 < cLine) (ha : DM X env ma a da) (hb : DM X env mb b db) (ca : cmpOk da = true) (cb : cmpOk db = true) : DT X env (.Compare a [.NotEq] [b] pos) (!PyData.eqv (toPy da) (toPy db)) :=
  dt_cmp (op_neD hu) (nomark _) ha hb fun H0 ps σ H E v w r1 r2 Q q => by
    rw [cmpOk, Bool.and_eq_true] at ca cb
    exact ⟨_, _, R.dp ca.1 (RM.any E.same r1), R.dp cb.1 (RM.any E.same r2), ca.2, cb.2, q _ H (Same.refl H) (R.bl _)⟩
theorem inV_ints {n : Int} {ns : List Int} : inV (.int n) (ns.map V.int) = ns.contains n := by
  unfold inV
  rw [List.any_map]
  induction ns with
  | nil => rfl
  | cons k r ih =>
    rw [List.any_cons, ih, List.contains_cons]
    have e : ((fun y => eqV y (.int n)) ∘ V.int) k = (n == k) := by
      show (k == n) = (n == k)
      exact Bool.eq_iff_iff.mpr ⟨fun z => beq_iff_eq.mpr (beq_iff_eq.mp z).symm, fun z => beq_iff_eq.mpr (beq_iff_eq.mp z).symm⟩
    rw [e]
theorem flat_ints {ns : List Int} : (ns.map V.int).all flatV = true := by
  rw [List.all_map]; simp [flatV, Function.comp_def]
theorem dm_inT {n : Int} {ns : List Int} (ha : DM X env ma a (.int n)) (hb : DM X env mb b (.tup (ns.map D.int))) (hm : behindInMarks .In b = false := by rfl) : DM X env .cl (.Compare a [.In] [b] pos) (.bl (ns.contains n)) :=
  dm_cmp op_in_seq hm ha hb fun H0 ps σ H E v w r1 r2 Q q => by
    obtain ⟨p, xs, rfl, h, ra⟩ := RM.tupI r2 E.same
    have e := RA.ints_inv (RMA.any E.same ra)
    subst e
    refine ⟨p, _, rfl, .inr (SqT.of h), ?_, flat_ints, ?_⟩
    · rw [r1.intI]; rfl
    · rw [r1.intI, inV_ints]
      exact q _ H (Same.refl H) (R.bl _)
theorem dt_inT {n : Int} {ns : List Int} (ha : DM X env ma a (.int n)) (hb : DM X env mb b (.tup (ns.map D.int))) (hm : behindInMarks .In b = false := by rfl) : DT X env (.Compare a [.In] [b] pos) (ns.contains n) :=
  dt_cmp op_in_seq hm ha hb fun H0 ps σ H E v w r1 r2 Q q => by
    obtain ⟨p, xs, rfl, h, ra⟩ := RM.tupI r2 E.same
    have e := RA.ints_inv (RMA.any E.same ra)
    subst e
    refine ⟨p, _, rfl, .inr (SqT.of h), ?_, flat_ints, ?_⟩
    · rw [r1.intI]; rfl
    · rw [r1.intI, inV_ints]
      exact q _ H (Same.refl H) (R.bl _)
theorem RM.ints {ns : List Int} (r : RM K m H0 ps H v (.lst (ns.map D.int))) (sm : Same H0 H) : ∃ p, v = .ref p ∧ SqL K H p (ns.map V.int) := by
  obtain ⟨p, xs, e, h, ra⟩ := RM.seq r sm
  rw [RA.ints_inv ra] at h
  exact ⟨p, e, h⟩
theorem dm_sum {x1 : Pos} {ns : List Int} (hc : X.calm = true) (ml : X.mg "sum" = none) (h : DM X env m e (.lst (ns.map D.int))) (hg : Gl X "sum" := by rfl) (he : starEach (e :: []) X.env = (false, eval e X.env) :: starEach [] X.env := by rfl) (hpl : (backTo pos (starEach [] X.env)).any (·.1) = false := by rfl) :
    DM X env .cl (.Call (.Name "sum" x1) [e] [] pos) (.int ns.sum) :=
  dm_callB (cr_sum hc) hg ml (by decide +kernel) (da_any h da_nil he) (fun H0 ps σ H E vs rr Q q => by
    obtain ⟨v, rfl, r⟩ := RMA.one rr
    obtain ⟨p, rfl, hs⟩ := RM.ints r E.same
    exact ⟨p, ns, rfl, hs, q _ H (Same.refl H) (R.int _)⟩) (he := he) (hpl := hpl)
theorem dm_min {x1 : Pos} {ns : List Int} {k : Int} (hc : X.calm = true) (ml : X.mg "min" = none) (h : DM X env m e (.lst (ns.map D.int))) (hk : k ∈ ns) (hle : ∀ y ∈ ns, k ≤ y) (hg : Gl X "min" := by rfl) (he : starEach (e :: []) X.env = (false, eval e X.env) :: starEach [] X.env := by rfl) (hpl : (backTo pos (starEach [] X.env)).any (·.1) = false := by rfl) :
    DM X env .cl (.Call (.Name "min" x1) [e] [] pos) (.int k) :=
  dm_callB (cr_min hc) hg ml (by decide +kernel) (da_any h da_nil he) (fun H0 ps σ H E vs rr Q q => by
    obtain ⟨v, rfl, r⟩ := RMA.one rr
    obtain ⟨p, rfl, hs⟩ := RM.ints r E.same
    refine ⟨p, ns, rfl, hs, List.length_pos_of_mem hk, fun m hm hy => ?_⟩
    have e : m = k := Int.le_antisymm (hy k hk) (hle m hm)
    subst e
    exact q _ H (Same.refl H) (R.int _)) (he := he) (hpl := hpl)
theorem dm_max {x1 : Pos} {ns : List Int} {k : Int} (hc : X.calm = true) (ml : X.mg "max" = none) (h : DM X env m e (.lst (ns.map D.int))) (hk : k ∈ ns) (hle : ∀ y ∈ ns, y ≤ k) (hg : Gl X "max" := by rfl) (he : starEach (e :: []) X.env = (false, eval e X.env) :: starEach [] X.env := by rfl) (hpl : (backTo pos (starEach [] X.env)).any (·.1) = false := by rfl) :
    DM X env .cl (.Call (.Name "max" x1) [e] [] pos) (.int k) :=
  dm_callB (cr_max hc) hg ml (by decide +kernel) (da_any h da_nil he) (fun H0 ps σ H E vs rr Q q => by
    obtain ⟨v, rfl, r⟩ := RMA.one rr
    obtain ⟨p, rfl, hs⟩ := RM.ints r E.same
    refine ⟨p, ns, rfl, hs, List.length_pos_of_mem hk, fun m hm hy => ?_⟩
    have e : m = k := Int.le_antisymm (hle m hm) (hy k hk)
    subst e
    exact q _ H (Same.refl H) (R.int _)) (he := he) (hpl := hpl)
theorem dm_all {x1 : Pos} {bs : List Bool} (hc : X.calm = true) (ml : X.mg "all" = none) (h : DM X env m e (.lst (bs.map D.bl))) (hg : Gl X "all" := by rfl) (he : starEach (e :: []) X.env = (false, eval e X.env) :: starEach [] X.env := by rfl) (hpl : (backTo pos (starEach [] X.env)).any (·.1) = false := by rfl) :
    DM X env .cl (.Call (.Name "all" x1) [e] [] pos) (.bl (bs.all id)) :=
  dm_callB (cr_all hc) hg ml (by decide +kernel) (da_any h da_nil he) (fun H0 ps σ H E vs rr Q q => by
    obtain ⟨v, rfl, r⟩ := RMA.one rr
    obtain ⟨p, xs, rfl, hs, ra⟩ := RM.seq r E.same
    rw [RA.bls_inv ra] at hs
    exact ⟨p, bs, rfl, hs, q _ H (Same.refl H) (R.bl _)⟩) (he := he) (hpl := hpl)
theorem dm_max2 {x1 : Pos} {i j : Int} (hc : X.calm = true) (ml : X.mg "max" = none) (h1 : DM X env ma a (.int i)) (h2 : DM X env mb b (.int j)) (hg : Gl X "max" := by rfl) (he : starEach (a :: [b]) X.env = (false, eval a X.env) :: starEach [b] X.env := by rfl) (he2 : starEach (b :: []) X.env = (false, eval b X.env) :: starEach [] X.env := by rfl) (hpl : (backTo pos (starEach [b] X.env)).any (·.1) = false := by rfl) :
    DM X env .cl (.Call (.Name "max" x1) [a, b] [] pos) (.int (max i j)) :=
  dm_callB (call_max2 hc) hg ml (by decide +kernel) (da_any h1 (da_any h2 da_nil he2) he) (fun H0 ps σ H E vs r Q q => by
    obtain ⟨v, w, rfl, r1, r2⟩ := RMA.two r
    refine ⟨i, j, by rw [r1.intI, r2.intI], ?_⟩
    rw [show (if j > i then j else i) = max i j by omega]
    exact q _ H (Same.refl H) (R.int _)) (he := he) (hpl := hpl)
theorem dm_min2 {x1 : Pos} {i j : Int} (hc : X.calm = true) (ml : X.mg "min" = none) (h1 : DM X env ma a (.int i)) (h2 : DM X env mb b (.int j)) (hg : Gl X "min" := by rfl) (he : starEach (a :: [b]) X.env = (false, eval a X.env) :: starEach [b] X.env := by rfl) (he2 : starEach (b :: []) X.env = (false, eval b X.env) :: starEach [] X.env := by rfl) (hpl : (backTo pos (starEach [b] X.env)).any (·.1) = false := by rfl) :
    DM X env .cl (.Call (.Name "min" x1) [a, b] [] pos) (.int (min i j)) :=
  dm_callB (call_min2 hc) hg ml (by decide +kernel) (da_any h1 (da_any h2 da_nil he2) he) (fun H0 ps σ H E vs r Q q => by
    obtain ⟨v, w, rfl, r1, r2⟩ := RMA.two r
    refine ⟨i, j, by rw [r1.intI, r2.intI], ?_⟩
    rw [show (if j < i then j else i) = min i j by omega]
    exact q _ H (Same.refl H) (R.int _)) (he := he) (hpl := hpl)
theorem dm_abs {x1 : Pos} {i : Int} (ml : X.mg "abs" = none) (h1 : DM X env ma a (.int i)) (hg : Gl X "abs" := by rfl) (he : starEach (a :: []) X.env = (false, eval a X.env) :: starEach [] X.env := by rfl) (hpl : (backTo pos (starEach [] X.env)).any (·.1) = false := by rfl) :
    DM X env .cl (.Call (.Name "abs" x1) [a] [] pos) (.int (if i < 0 then -i else i)) :=
  dm_callB call_abs hg ml (by decide +kernel) (da_any h1 da_nil he) (fun H0 ps σ H E vs r Q q => by
    obtain ⟨v, rfl, r1⟩ := RMA.one r
    exact ⟨i, by rw [r1.intI], q _ H (Same.refl H) (R.int _)⟩) (he := he) (hpl := hpl)
theorem dm_intB {x1 : Pos} {k : Bool} (ml : X.mg "int" = none) (h1 : DM X env ma a (.bl k)) (hg : Gl X "int" := by rfl) (he : starEach (a :: []) X.env = (false, eval a X.env) :: starEach [] X.env := by rfl) (hpl : (backTo pos (starEach [] X.env)).any (·.1) = false := by rfl) :
    DM X env .cl (.Call (.Name "int" x1) [a] [] pos) (.int (if k then 1 else 0)) :=
  dm_callTy call_int1 hg ml (by decide +kernel) (da_any h1 da_nil he) (fun H0 ps σ H E vs r Q q => by
    obtain ⟨v, rfl, r1⟩ := RMA.one r
    exact .inr ⟨k, by rw [r1.blI], q _ H (Same.refl H) (R.int _)⟩) (he := he) (hpl := hpl)
theorem dm_list {x1 : Pos} (ml : X.mg "list" = none) (h : DM X env m e (.lst ds)) (hi' : immA ds = true) (hg : Gl X "list" := by rfl) (he : starEach (e :: []) X.env = (false, eval e X.env) :: starEach [] X.env := by rfl) (hpl : (backTo pos (starEach [] X.env)).any (·.1) = false := by rfl) :
    DM X env .cl (.Call (.Name "list" x1) [e] [] pos) (.lst ds) :=
  dm_callTy call_list_of hg ml (by decide +kernel) (da_any h da_nil he) (fun H0 ps σ H E vs rr Q q => by
    obtain ⟨v, rfl, r⟩ := RMA.one rr
    obtain ⟨p, xs, rfl, hs, ra⟩ := RM.seq r E.same
    have ra2 := E.immA hi' ra
    exact ⟨p, xs, rfl, .inl hs, fun x hx => q _ _ (same_upd hx) (.lst (E.at_new hx) (RA.mono (ec_mono (same_upd hx)) id ra2))⟩) (he := he) (hpl := hpl)
theorem dm_sorted {x1 : Pos} {ns ts : List Int} (ml : X.mg "sorted" = none) (h : DM X env m e (.lst (ns.map D.int))) (hl : ns.length < 64) (ht : ∀ ns' : List Int, ns'.Perm ns → ns'.Pairwise (· ≤ ·) → ns' = ts) (hg : Gl X "sorted" := by rfl) (he : starEach (e :: []) X.env = (false, eval e X.env) :: starEach [] X.env := by rfl) (hpl : (backTo pos (starEach [] X.env)).any (·.1) = false := by rfl) :
    DM X env .cl (.Call (.Name "sorted" x1) [e] [] pos) (.lst (ts.map D.int)) :=
  dm_callB cr_sorted hg ml (by decide +kernel) (da_any h da_nil he) (fun H0 ps σ H E vs rr Q q => by
    obtain ⟨v, rfl, r⟩ := RMA.one rr
    obtain ⟨p, rfl, hs⟩ := RM.ints r E.same
    refine ⟨p, ns, rfl, hs, hl, fun ns' x h1 h2 hx => ?_⟩
    have e := ht ns' h1 h2
    subst e
    exact q _ _ (same_upd hx) (.lst (E.at_new hx) RA.ints)) (he := he) (hpl := hpl)
end
end DW
set_option Elab.async false
set_option linter.all false
set_option maxRecDepth 100000
set_option maxHeartbeats 2000000
namespace DW
open PySem PySem.Spec L2
def PSp (K : PySem.W.Frag) (Rel : List D → D → Prop) : Sp := fun vs H Q _ => ∃ ds d, RA K true H vs ds ∧ Rel ds d ∧ ∀ v H', Same H H' → R K false (cl H H') v d → Q v H'
def CallOk (P : Program) (w : World) (K : PySem.W.Frag) (mg : Str → Option Value) (base : Heap) (x : Str) (k : Nat) (Rel : List D → D → Prop) : Prop :=
  ∃ (CX : CXT) (f : Addr) (fd : FuncData) (ps : List Str), (∀ X : Cx, X.prog = P → X.w = w → Passes CX X E0) ∧ mg x = some (.ref f) ∧ PySem.W.keepIn K (.ref f) = true ∧ Binds K fd ps [] ∧ FnOk P w K mg base CX k f fd ps (PSp K Rel)
section
variable {X : Cx} {env : Env} {m ma mb : Md} {a b e : Expr} {da db d : D} {pos : Pos} {K : PySem.W.Frag} {ds : List D} {H0 H : Hp} {ps : List Addr} {σ : L2.St} {v : V}
theorem dm_call {x : Str} {p : Pos} {es : List Expr} {k j : Nat} {Rel : List D → D → Prop} (C : CallOk X.prog X.w X.K X.mg X.base x k Rel) (hr : Room j X.A) (ha : DA X env .any (e :: es) ds) (h : Rel ds d) (hk : k ≤ j := by decide) (hg : Gl X x := by rfl)
    (hdb : (x == ("__debug__" : Str)) = false := by decide) (he : starEach (e :: es) X.env = (false, eval e X.env) :: starEach es X.env := by rfl) (hpl : (backTo pos (starEach es X.env)).any (·.1) = false := by rfl) :
    DM X env .cl (.Call (.Name x p) (e :: es) [] pos) d := fun H0 ps σ H E Q q => by
  obtain ⟨CX, f, fd, qs, hx, hm, kp, hb, F⟩ := C
  refine (pe_call F (hr.mono hk) hg hm kp hb .nil (hx X rfl rfl) pw_A hdb he hpl).w (ha H0 ps σ H E _ fun vs H1 s1 r1 => ?_)
  refine ⟨ds, d, by rw [List.append_nil]; exact r1, h, fun v H' s2 r2 => ?_⟩
  exact q v H' (s1.trans s2) ((E.mono s1).made s2 r2)
theorem CallOk.mk {P : Program} {w : World} {mg : Str → Option Value} {base : Heap} {x : Str} {k : Nat} {Rel : List D → D → Prop} {f : Addr} {fd : FuncData} {qs : List Str} (F : FnOk P w K mg base CX0 k f fd qs (PSp K Rel)) (hm : mg x = some (.ref f)) (kp : PySem.W.keepIn K (.ref f) = true) (hb : Binds K fd qs []) :
    CallOk P w K mg base x k Rel := ⟨CX0, f, fd, qs, fun _ _ _ => pass0, hm, kp, hb, F⟩
theorem CallOk.imp {P : Program} {w : World} {mg : Str → Option Value} {base : Heap} {x : Str} {k : Nat} {Rel Rel' : List D → D → Prop} (C : CallOk P w K mg base x k Rel) (h : ∀ ds d, Rel' ds d → Rel ds d) : CallOk P w K mg base x k Rel' := by
  obtain ⟨CX, f, fd, qs, hx, hm, kp, hb, F⟩ := C
  exact ⟨CX, f, fd, qs, hx, hm, kp, hb, F.imp fun vs H Q E ⟨ds, d, h1, h2, h3⟩ => ⟨ds, d, h1, h ds d h2, h3⟩⟩
def tyN : D → Option String
  | .non => some "NoneType" | .bl _ => some "bool" | .int _ => some "int" | .str _ => some "str"
  | .lst _ => some "list" | .tup _ => some "tuple" | .dic _ => some "dict" | .obj _ _ _ => none | .opq _ => none
theorem tyx {t : String} (r : R K true H v d) (h : tyN d = some t) : TyX K H v (.type t) := by
  cases r with
  | non => cases h; exact .base .non
  | bl k => cases h; exact .base (.bl k)
  | int k => cases h; exact .base (.int k)
  | str k => cases h; exact .base (.str k)
  | lst z _ => cases h; exact .base (.lst z)
  | tup z _ => cases h; exact .base (.tup z)
  | dic z _ => cases h; exact .base (.dK z)
  | obj z _ => cases h
  | opq _ => cases h
  | scr _ z _ =>
    cases h
    rcases z with (z | ⟨o, z⟩) | ⟨o, its, n, h1, h2, _⟩
    · exact .base (.lst z)
    · exact .base (.frz z)
    · exact .kList h1 h2
theorem dm_isi {x1 p2 : Pos} {t : String} {T : Str} {n : String} {k : Bool} (mi : X.mg "isinstance" = none) (mT : X.mg T = none) (hT : bootBuiltins T = some (.type n)) (h : DM X env m e d) (ht : tyN d = some t) (hk : kitB t n = some k) (hg : Gl X "isinstance" := by rfl) (hgT : Gl X T := by rfl) (hn : T ≠ "__name__" := by decide) (hdb : (T == ("__debug__" : Str)) = false := by decide) (hcd : (T == ("__classdict__" : Str)) = false := by decide)
    (he : starEach (e :: [.Name T p2]) X.env = (false, eval e X.env) :: starEach [.Name T p2] X.env := by rfl) (he2 : starEach (.Name T p2 :: []) X.env = (false, eval (.Name T p2) X.env) :: starEach [] X.env := by rfl) (hpl : (backTo pos (starEach [.Name T p2] X.env)).any (·.1) = false := by rfl) :
    DM X env .cl (.Call (.Name "isinstance" x1) [e, .Name T p2] [] pos) (.bl k) := fun H0 ps σ H E Q q =>
  (pe_callB call_isi hg mi (by decide +kernel) (pa_cons pw_E (pa_cons (pe_bltn (v := .ty n) hgT mT hT rfl hn hdb) pa_nil he2) he) (he := he) (hpl := hpl)).w (h H0 ps σ H E _ fun v H1 s1 r1 => by
    refine ⟨v, .ty n, .type t, .type n, k, rfl, .ty n, tyx (RM.any (E.same.trans s1) r1) ht, kit_ty hk, ?_⟩
    exact q _ H1 s1 (R.bl _))
structure Own (K : PySem.W.Frag) (C : Addr) : Prop where
  cl : Cls K C
  ha : PySem.W.findIn K (.ref C) "__class__" = some (some (.builtin "object.__class__"))
  hn : PySem.W.specialIn K (.builtin "object.__class__") "__get__" = some (some (.builtin "getset_descriptor.__get__"))
  htk : PySem.W.takesIn K (.builtin "object.__class__") = some true
  hm : PySem.W.mroIn K C (.type "object") = some true
theorem dm_isiO {x1 p2 : Pos} {C C' : Addr} {f : Str} {T : Str} {k : Bool} (mi : X.mg "isinstance" = none) (mT : X.mg T = some (.ref C')) (O : Own X.K C) (hk : PySem.W.kitOne X.K (.ref C) (.ref C') = some k) (h : DM X env m e (.obj C f d)) (hg : Gl X "isinstance" := by rfl) (hgT : Gl X T := by rfl) (hdb : (T == ("__debug__" : Str)) = false := by decide) (hcd : (T == ("__classdict__" : Str)) = false := by decide)
    (he : starEach (e :: [.Name T p2]) X.env = (false, eval e X.env) :: starEach [.Name T p2] X.env := by rfl) (he2 : starEach (.Name T p2 :: []) X.env = (false, eval (.Name T p2) X.env) :: starEach [] X.env := by rfl) (hpl : (backTo pos (starEach [.Name T p2] X.env)).any (·.1) = false := by rfl) :
    DM X env .cl (.Call (.Name "isinstance" x1) [e, .Name T p2] [] pos) (.bl k) := fun H0 ps σ H E Q q =>
  (pe_callB call_isi hg mi (by decide +kernel) (pa_cons pw_E (pa_cons (pe_glob (v := .ref C') hgT mT rfl hdb) pa_nil he2) he) (he := he) (hpl := hpl)).w (h H0 ps σ H E _ fun v H1 s1 r1 => by
    obtain ⟨p, dx, y, rfl, hp, _⟩ := R.objI (RM.any (E.same.trans s1) r1)
    refine ⟨_, .ref C', .ref C, .ref C', k, rfl, .own C', .base (.ins hp O.cl O.ha O.hn O.htk O.hm), hk, ?_⟩
    exact q _ H1 s1 (R.bl _))
theorem RM.objI {C : Addr} {f : Str} (r : RM K m H0 ps H v (.obj C f d)) (sm : Same H0 H) : ∃ p dx x, v = .ref p ∧ H p = some (.ins C dx [(f, x)]) ∧ RM K m H0 ps H x d := by
  cases m with
  | cl => obtain ⟨p, dx, xs, e, h, q⟩ := R.objI r; exact ⟨p, dx, xs, e, ec_le _ _ h, q⟩
  | ar => obtain ⟨p, dx, xs, e, h, q⟩ := R.objI r; exact ⟨p, dx, xs, e, sm _ _ h, q⟩
  | any => exact R.objI r
theorem dm_fld {C : Addr} {f : Str} (c : Cls X.K C) (nf : NoAttr X.K C f) (h : DM X env m e (.obj C f d)) (hb : attributeBase e f X.env (eval e X.env) = eval e X.env := by rfl) : DM X env m (.Attribute e f pos) d := fun H0 ps σ H E Q q =>
  (pe_fld pw_E hb).w (h H0 ps σ H E _ fun v H1 s1 r1 => by
    obtain ⟨p, dx, x, rfl, hp, rx⟩ := RM.objI r1 (E.same.trans s1)
    exact ⟨p, C, dx, _, x, rfl, hp, c, nf, by simp [List.lookup], q x H1 s1 rx⟩)
theorem SlotR.set_ne {o : Option (Option V)} {i j : Nat} (h : i ≠ j) {σ : L2.St} {y : Option V} : (σ.set i y)[j]? = σ[j]? := by rw [List.getElem?_set_ne h]
theorem EnvR.put {i : Nat} {s : Slot} (E : EnvR K H0 ps env σ H) (hi : i < σ.length) (hs : SlotR K H0 ps H (some (some v)) s) : EnvR K H0 ps (env.1.set i s, env.2) (σ.set i (some v)) H where
  same := E.same
  mu := E.mu
  nd := E.nd
  ow := E.ow
  sl := fun j s' h => by
    by_cases e : i = j
    · subst e
      have h2 : (env.1.set i s)[i]? = some s' := h
      rw [List.getElem?_set] at h2
      split at h2
      · split at h2
        · obtain rfl := Option.some.inj h2
          rw [List.getElem?_set]
          simp [hi]
          exact hs
        · cases h2
      · rename_i z; exact absurd rfl z
    · have h2 : (env.1.set i s)[j]? = some s' := h
      rw [List.getElem?_set_ne e] at h2 ⊢
      exact E.sl j s' h2
theorem wipe_set {σ : L2.St} {i : Nat} {y : Option V} : ∀ {vs : List Nat}, i ∈ vs → wipe (σ.set i y) vs = wipe σ vs := by
  intro vs hi
  apply List.ext_getElem?
  intro j
  by_cases hj : j ∈ vs
  · have z : ∀ (τ : L2.St), τ.length = σ.length → (wipe τ vs)[j]? = if j < σ.length then some none else none := fun τ ht => by
      cases e : (wipe τ vs)[j]? with
      | none =>
        have := List.getElem?_eq_none_iff.mp e
        rw [wipe_length, ht] at this
        rw [if_neg (by omega)]
      | some o =>
        have hl := (List.getElem?_eq_some_iff.mp e).1
        rw [wipe_length, ht] at hl
        rw [if_pos hl]
        cases o with
        | none => rfl
        | some x => exact absurd hj (wipe_some e).2
    rw [z _ (by rw [List.length_set]), z _ rfl]
  · rw [wipe_out hj, wipe_out hj]
    have : i ≠ j := fun e => hj (e ▸ hi)
    rw [List.getElem?_set_ne this]
def slotOf (m : Md) (d : D) : Slot := match m with
  | .cl => .val d
  | .ar => .arg d
  | .any => .un
theorem slotOf_ok (r : RM K m H0 ps H v d) : SlotR K H0 ps H (some (some v)) (slotOf m d) := by
  cases m with
  | cl => exact ⟨v, rfl, r⟩
  | ar => exact ⟨v, rfl, r⟩
  | any => trivial
theorem Inv.lenσ {pins : List (Addr × Obj)} {s : Shared} (I : Inv X pins σ H s) : σ.length = X.N.length := I.len
theorem dg_name (i : Nat) {x : Str} (hN : X.N.Nodup) (hi : X.N[i]? = some x := by rfl) (hx : Loc X.env.scope x := by first | exact Or.inl rfl | exact Or.inr rfl) (hf : X.fn x = true ∨ X.env.scope.names.lookup x = some .local := by first | exact .inl rfl | exact .inr rfl) :
    DG X env m (.Name x pos) d (env.1.set i (slotOf m d), env.2) [i] := fun H0 ps σ H v E r Q q => ⟨fun pins s u I ru => by
  have hlen : i < σ.length := by rw [I.len]; exact (List.getElem?_eq_some_iff.mp hi).1
  exact (pg_name hN hi hx hf).run pins s σ H v u Q I ru (q (σ.set i (some v)) (E.put hlen (slotOf_ok r)) fun vs hv => wipe_set (hv i (by simp)))⟩
theorem dgs_nil : DGs X env m [] [] env [] := fun H0 ps σ H v E r Q q => pgs_nil.w ⟨by cases m <;> (cases r; rfl), q σ E fun _ _ => rfl⟩
theorem dgs_cons {ts : List Expr} {env1 env2 : Env} {J1 J2 : List Nat} (h1 : DG X env m e d env1 J1) (h2 : DGs X env1 m ts ds env2 J2) (hs : (assignEach (e :: ts) X.env).map (·.2) = assign e X.env :: (assignEach ts X.env).map (·.2) := by rfl) : DGs X env m (e :: ts) (d :: ds) env2 (J1 ++ J2) := fun H0 ps σ H v E r Q q => by
  obtain ⟨x, xs, rfl, r1, r2⟩ : ∃ x xs, v = x :: xs ∧ RM X.K m H0 ps H x d ∧ RMA X.K m H0 ps H xs ds := by
    cases m <;> (cases r with | cons r1 r2 => exact ⟨_, _, rfl, r1, r2⟩)
  exact (pgs_cons pw_G pw_Gs hs).w ⟨x, xs, rfl, h1 H0 ps σ H x E r1 _ fun σ1 E1 w1 => h2 H0 ps σ1 H xs E1 r2 Q fun σ2 E2 w2 => q σ2 E2 fun vs hv => (w2 vs fun j hj => hv j (List.mem_append_right _ hj)).trans (w1 vs fun j hj => hv j (List.mem_append_left _ hj))⟩
theorem dg_tup {ts : List Expr} {k : Nat} {env1 : Env} {J : List Nat} (hc : X.calm = true) (h : DGs X env m ts ds env1 J) (hn : (assignEach ts X.env).length = ds.length := by rfl) (hst : (assignEach ts X.env).findIdx? (fun x => x.1) = none := by rfl) : DG X env m (.Tuple ts k pos) (.tup ds) env1 J := fun H0 ps σ H v E r Q q => by
  obtain ⟨p, xs, rfl, hp, ra⟩ := RM.tupI r E.same
  exact (pg_tup hc pw_Gs hn hst).w ⟨p, xs, rfl, SqT.of hp, RMA.length ra, h H0 ps σ H xs E ra Q q⟩
theorem sq_fr {ps' : List Addr} {H1 : Hp} {p : Addr} {xs : List V} (f : Fr ps H ps' H1) (h : H p = some (.lst xs)) (hp : p ∉ ps) : H1 p = some (.lst xs) := (f p _ hp h).2
theorem di_list {tg : Expr} (hm : m ≠ .any) (h : DM X env m e (.lst ds)) : DI X env m tg e ds := fun H0 ps σ H E R' q => by
  refine (pi_list pw_E).w (h H0 ps σ H E _ fun v H1 s1 r1 => ?_)
  have E1 := E.mono s1
  have main : ∃ p xs, v = .ref p ∧ (∀ ps' H2, Same H0 H2 → Fr ps H1 ps' H2 → SqL X.K H2 p xs) ∧ RMA X.K m H0 ps H1 xs ds := by
    cases m with
    | cl =>
      obtain ⟨p, xs, e, hp, ra⟩ := R.lstI r1
      refine ⟨p, xs, e, fun ps' H2 _ f => SqL.of ?_, ra⟩
      have hp2 := hp
      unfold er at hp2
      split at hp2
      · cases hp2
      · rename_i hn
        exact (f p _ hn (cl_le _ _ _ _ hp2)).2
    | ar =>
      obtain ⟨p, xs, e, hp, ra⟩ := R.seq r1
      exact ⟨p, xs, e, fun ps' H2 s0 _ => s0.seq hp, ra⟩
    | any => exact absurd rfl hm
  obtain ⟨p, xs, rfl, hs, ra⟩ := main
  refine ⟨p, rfl, ⟨xs, hs ps H1 E1.same (Fr.refl _ _)⟩, q _ H1 s1 ⟨fun i ps' H2 d s0 f hd => ?_, fun i ps' H2 d x H3 s0 f _ hd hy => ?_, fun i ps' H2 s0 f hl => ?_⟩⟩
  · obtain ⟨x, hx, _⟩ := RMA.get ra hd
    exact ⟨xs, x, hs ps' H2 s0 f, hx⟩
  · obtain ⟨rfl, hx⟩ := hy
    obtain ⟨y, hy, ry⟩ := RMA.get ra hd
    have e : y = x := Option.some.inj (hy.symm.trans (hx xs (hs ps' _ s0 f)))
    subst e
    exact ⟨Same.refl _, RM.fr f hm ry⟩
  · exact ⟨xs, hs ps' H2 s0 f, by rw [RMA.length ra]; exact hl⟩
theorem di_tup {tg : Expr} (hm : m ≠ .any) (h : DM X env m e (.tup ds)) : DI X env m tg e ds := fun H0 ps σ H E R' q => by
  refine (pi_tup pw_E).w (h H0 ps σ H E _ fun v H1 s1 r1 => ?_)
  have E1 := E.mono s1
  have main : ∃ p xs, v = .ref p ∧ (∀ ps' H2, Same H0 H2 → Fr ps H1 ps' H2 → SqT X.K H2 p xs) ∧ RMA X.K m H0 ps H1 xs ds := by
    cases m with
    | cl =>
      obtain ⟨p, xs, e, hp, ra⟩ := R.tupI r1
      refine ⟨p, xs, e, fun ps' H2 _ f => SqT.of ?_, ra⟩
      have hp2 := hp
      unfold er at hp2
      split at hp2
      · cases hp2
      · rename_i hn
        exact (f p _ hn (cl_le _ _ _ _ hp2)).2
    | ar =>
      obtain ⟨p, xs, e, hp, ra⟩ := R.tupI r1
      exact ⟨p, xs, e, fun ps' H2 s0 _ => SqT.of (s0 _ _ hp), ra⟩
    | any => exact absurd rfl hm
  obtain ⟨p, xs, rfl, hs, ra⟩ := main
  refine ⟨p, rfl, ⟨xs, hs ps H1 E1.same (Fr.refl _ _)⟩, q _ H1 s1 ⟨fun i ps' H2 d s0 f hd => ?_, fun i ps' H2 d x H3 s0 f _ hd hy => ?_, fun i ps' H2 s0 f hl => ?_⟩⟩
  · obtain ⟨x, hx, _⟩ := RMA.get ra hd
    exact ⟨xs, x, hs ps' H2 s0 f, hx⟩
  · obtain ⟨rfl, hx⟩ := hy
    obtain ⟨y, hy, ry⟩ := RMA.get ra hd
    have e : y = x := Option.some.inj (hy.symm.trans (hx xs (hs ps' _ s0 f)))
    subst e
    exact ⟨Same.refl _, RM.fr f hm ry⟩
  · exact ⟨xs, hs ps' H2 s0 f, by rw [RMA.length ra]; exact hl⟩
def rgD (lo : Int) (n : Nat) : List D := (List.range n).map fun i : Nat => D.int (lo + i)
theorem rgD_get {lo : Int} {n i : Nat} {d : D} (h : (rgD lo n)[i]? = some d) : i < n ∧ d = .int (lo + i) := by
  unfold rgD at h
  rw [List.getElem?_map] at h
  cases z : (List.range n)[i]? with
  | none => rw [z] at h; cases h
  | some j =>
    obtain ⟨h1, h2⟩ := List.getElem?_eq_some_iff.mp z
    rw [List.length_range] at h1
    rw [List.getElem_range] at h2
    rw [z] at h
    subst h2
    exact ⟨h1, (Option.some.inj h).symm⟩
theorem rgD_len {lo : Int} {n : Nat} : (rgD lo n).length = n := by simp [rgD]
theorem it_rng {lo : Int} {n : Nat} {H1 : Hp} : ItOk K (Itr lo n) .cl H0 ps H1 (rgD lo n) where
  go := fun i ps' H2 d _ _ hd => (rgD_get hd).1
  yld := fun i ps' H2 d x H3 _ _ _ hd hy => by
    obtain ⟨rfl, rfl⟩ := hy
    obtain ⟨_, rfl⟩ := rgD_get hd
    exact ⟨Same.refl _, R.int _⟩
  stop := fun i ps' H2 _ _ hl => by rw [rgD_len] at hl; exact hl
theorem di_range1 {tg : Expr} {p : Pos} {j : Int} (mr : X.mg "range" = none) (h : DM X env m a (.int j)) (h1 : -(2 ^ 62) ≤ j) (h2 : j < 2 ^ 62) (hg : Gl X "range" := by rfl) (hs : starEach [a] X.env = [(false, eval a X.env)] := by rfl) : DI X env .cl tg (.Call (.Name "range" p) [a] [] pos) (rgD 0 j.toNat) := fun H0 ps σ H E R' q =>
  (pi_range1 hg mr (pa_cons pw_E pa_nil hs) hs).w (h H0 ps σ H E _ fun v H1 s1 r1 => ⟨j, by rw [r1.intI], h1, h2, q _ H1 s1 it_rng⟩)
theorem di_range2 {tg : Expr} {p : Pos} {i j : Int} (mr : X.mg "range" = none) (ha : DM X env ma a (.int i)) (hb : DM X env mb b (.int j)) (h1 : -(2 ^ 62) ≤ i) (h2 : i < 2 ^ 62) (h3 : -(2 ^ 62) ≤ j) (h4 : j < 2 ^ 62) (hg : Gl X "range" := by rfl) (hs : starEach [a, b] X.env = [(false, eval a X.env), (false, eval b X.env)] := by rfl) (hs2 : starEach [b] X.env = [(false, eval b X.env)] := by rfl) :
    DI X env .cl tg (.Call (.Name "range" p) [a, b] [] pos) (rgD i (j - i).toNat) := fun H0 ps σ H E R' q =>
  (pi_range2 hg mr (pa_cons pw_E (pa_cons pw_E pa_nil hs2) (by rw [hs, hs2])) hs hs2).w (ha H0 ps σ H E _ fun v H1 s1 r1 => hb H0 ps σ H1 (E.mono s1) _ fun w H2 s2 r2 => ⟨i, j, by rw [r1.intI, r2.intI], ⟨h1, h2, h3, h4⟩, q _ H2 (s1.trans s2) it_rng⟩)
def rgC (lo c : Int) (n : Nat) : List D := (List.range n).map fun i : Nat => D.int (lo + (i : Nat) * c)
theorem rgC_get {lo c : Int} {n i : Nat} {d : D} (h : (rgC lo c n)[i]? = some d) : i < n ∧ d = .int (lo + (i : Nat) * c) := by
  unfold rgC at h
  rw [List.getElem?_map] at h
  cases z : (List.range n)[i]? with
  | none => rw [z] at h; cases h
  | some j =>
    obtain ⟨h1, h2⟩ := List.getElem?_eq_some_iff.mp z
    rw [List.length_range] at h1
    rw [List.getElem_range] at h2
    rw [z] at h
    subst h2
    exact ⟨h1, (Option.some.inj h).symm⟩
theorem rgC_len {lo c : Int} {n : Nat} : (rgC lo c n).length = n := by simp [rgC]
theorem it_rngC {lo c : Int} {n : Nat} {H1 : Hp} : ItOk K (Itc lo c n) .cl H0 ps H1 (rgC lo c n) where
  go := fun i ps' H2 d _ _ hd => (rgC_get hd).1
  yld := fun i ps' H2 d x H3 _ _ _ hd hy => by
    obtain ⟨rfl, rfl⟩ := hy
    obtain ⟨_, rfl⟩ := rgC_get hd
    exact ⟨Same.refl _, R.int _⟩
  stop := fun i ps' H2 _ _ hl => by rw [rgC_len] at hl; exact hl
theorem di_range3 {tg c : Expr} {p : Pos} {i j k : Int} {mc : Md} {n : Nat} (mr : X.mg "range" = none) (ha : DM X env ma a (.int i)) (hb : DM X env mb b (.int j)) (hc : DM X env mc c (.int k)) (hR : RgC i j k n) (hg : Gl X "range" := by rfl) (hs : starEach [a, b, c] X.env = (false, eval a X.env) :: starEach [b, c] X.env := by rfl) (hs2 : starEach [b, c] X.env = (false, eval b X.env) :: starEach [c] X.env := by rfl) (hs3 : starEach [c] X.env = (false, eval c X.env) :: starEach [] X.env := by rfl)
    (hpl : (backTo pos (starEach [b, c] X.env)).any (·.1) = false := by rfl) :
    DI X env .cl tg (.Call (.Name "range" p) [a, b, c] [] pos) (rgC i k n) := fun H0 ps σ H E R' q =>
  (pi_range3 hg mr (pa_cons pw_E (pa_cons pw_E (pa_cons pw_E pa_nil hs3) hs2) hs) hs hpl).w (ha H0 ps σ H E _ fun v H1 s1 r1 => hb H0 ps σ H1 (E.mono s1) _ fun w H2 s2 r2 => hc H0 ps σ H2 ((E.mono s1).mono s2) _ fun u H3 s3 r3 =>
    ⟨i, j, k, n, by rw [r1.intI, r2.intI, r3.intI], hR, q _ H3 ((s1.trans s2).trans s3) it_rngC⟩)
def enD (ds : List D) : List D := ds.mapIdx fun i d => D.tup [.int (i : Nat), d]
theorem di_enum {tpos : Pos} {elts : List Expr} {kk : Nat} {p : Pos} (hm : m = .cl ∨ immA ds = true) (hm2 : m ≠ .any) (me : X.mg "enumerate" = none) (h : DM X env m e (.lst ds)) (hg : Gl X "enumerate" := by rfl) (hs : starEach [e] X.env = [(false, eval e X.env)] := by rfl) : DI X env .cl (.Tuple elts kk tpos) (.Call (.Name "enumerate" p) [e] [] pos) (enD ds) := fun H0 ps σ H E R' q => by
  refine (pi_enum hg me (pa_cons pw_E pa_nil hs) hs).w (h H0 ps σ H E _ fun v H1 s1 r1 => ?_)
  have E1 := E.mono s1
  have main : ∃ p xs, v = .ref p ∧ (∀ ps' H2, Same H0 H2 → Fr ps H1 ps' H2 → SqL X.K H2 p xs) ∧ RA X.K false (er ps (cl H0 H1)) xs ds := by
    cases m with
    | cl =>
      obtain ⟨p, xs, e, hp, ra⟩ := R.lstI r1
      refine ⟨p, xs, e, fun ps' H2 _ f => SqL.of ?_, ra⟩
      have hp2 := hp
      unfold er at hp2
      split at hp2
      · cases hp2
      · rename_i hn
        exact (f p _ hn (cl_le _ _ _ _ hp2)).2
    | ar =>
      obtain ⟨p, xs, e, hp, ra⟩ := R.seq r1
      refine ⟨p, xs, e, fun ps' H2 s0 _ => s0.seq hp, E1.immA (hm.resolve_left (by intro z; cases z)) (RA.mono (b := true) E1.same id ra)⟩
    | any => exact absurd rfl hm2
  obtain ⟨p, xs, rfl, hs', ra⟩ := main
  have getE : ∀ {i : Nat} {d : D}, (enD ds)[i]? = some d → ∃ x, ds[i]? = some x ∧ d = .tup [.int (i : Nat), x] := fun {i d} hd => by
    unfold enD at hd
    rw [List.getElem?_mapIdx] at hd
    cases z : ds[i]? with
    | none => rw [z] at hd; cases hd
    | some x => rw [z] at hd; exact ⟨x, rfl, (Option.some.inj hd).symm⟩
  refine ⟨p, xs, rfl, hs' ps H1 E1.same (Fr.refl _ _), q _ H1 s1 ⟨fun i ps' H2 d s0 f hd => ?_, fun i ps' H2 d x H3 s0 f hin hd hy => ?_, fun i ps' H2 s0 f hl => ?_⟩⟩
  · obtain ⟨d', hd', _⟩ := getE hd
    obtain ⟨x, hx, _⟩ := RA.get ra hd'
    exact ⟨xs, x, hs' ps' H2 s0 f, hx⟩
  · obtain ⟨T, y, rfl, hT, rfl, hx⟩ := hy
    obtain ⟨d', hd', rfl⟩ := getE hd
    obtain ⟨z, hz, rz⟩ := RA.get ra hd'
    have e : z = y := Option.some.inj (hz.symm.trans (hx xs (hs' ps' _ s0 f)))
    subst e
    refine ⟨same_upd hT, .tup (xs := [.int (i : Nat), z]) ?_ (.cons (R.int _) (.cons ?_ .nil))⟩
    · unfold er
      rw [if_neg fun y => ?_]
      · exact cl_tup upd_same
      · obtain ⟨o, ho⟩ := hin T y
        rw [hT] at ho; cases ho
    · exact R.mono (f.ec.trans (ec_mono (same_upd hT))) id rz
  · refine ⟨xs, hs' ps' H2 s0 f, ?_⟩
    rw [RA.length ra]
    simpa [enD] using hl
theorem di_rev {tg : Expr} {p : Pos} (hm : m ≠ .any) (me : X.mg "reversed" = none) (h : DM X env m e (.lst ds)) (hg : Gl X "reversed" := by rfl) (hs : starEach [e] X.env = [(false, eval e X.env)] := by rfl) : DI X env m tg (.Call (.Name "reversed" p) [e] [] pos) ds.reverse := fun H0 ps σ H E R' q => by
  refine (pi_reversed hg me (pa_cons pw_E pa_nil hs) hs).w (h H0 ps σ H E _ fun v H1 s1 r1 => ?_)
  have E1 := E.mono s1
  have main : ∃ p xs, v = .ref p ∧ (∀ ps' H2, Same H0 H2 → Fr ps H1 ps' H2 → SqL X.K H2 p xs) ∧ RMA X.K m H0 ps H1 xs ds := by
    cases m with
    | cl =>
      obtain ⟨p, xs, e, hp, ra⟩ := R.lstI r1
      refine ⟨p, xs, e, fun ps' H2 _ f => SqL.of ?_, ra⟩
      have hp2 := hp
      unfold er at hp2
      split at hp2
      · cases hp2
      · rename_i hn
        exact (f p _ hn (cl_le _ _ _ _ hp2)).2
    | ar =>
      obtain ⟨p, xs, e, hp, ra⟩ := R.seq r1
      exact ⟨p, xs, e, fun ps' H2 s0 _ => s0.seq hp, ra⟩
    | any => exact absurd rfl hm
  obtain ⟨p, xs, rfl, hs', ra⟩ := main
  have hlen := RMA.length ra
  have getR : ∀ {i : Nat} {d : D}, ds.reverse[i]? = some d → i < xs.length ∧ ds[xs.length - 1 - i]? = some d := fun {i d} hd => by
    have h1 := (List.getElem?_eq_some_iff.mp hd).1
    rw [List.length_reverse] at h1
    rw [List.getElem?_reverse h1] at hd
    rw [hlen]
    exact ⟨h1, hd⟩
  refine ⟨p, xs, rfl, hs' ps H1 E1.same (Fr.refl _ _), q _ H1 s1 ⟨fun i ps' H2 d s0 f hd => ?_, fun i ps' H2 d x H3 s0 f hin hd hy => ?_, fun i ps' H2 s0 f hl => ?_⟩⟩
  · obtain ⟨h1, h2⟩ := getR hd
    obtain ⟨x, hx, _⟩ := RMA.get ra h2
    exact ⟨h1, xs, x, hs' ps' H2 s0 f, hx⟩
  · obtain ⟨rfl, hx⟩ := hy
    obtain ⟨h1, h2⟩ := getR hd
    obtain ⟨y, hy, ry⟩ := RMA.get ra h2
    have e : y = x := Option.some.inj (hy.symm.trans (hx xs (hs' ps' _ s0 f)))
    subst e
    exact ⟨Same.refl _, RM.fr f hm ry⟩
  · rw [List.length_reverse, ← hlen] at hl
    exact hl
end
end DW
set_option Elab.async false
set_option linter.all false
set_option maxRecDepth 100000
set_option maxHeartbeats 2000000
namespace DW
open PySem PySem.Spec L2
def wipeS (sl : List Slot) : List Nat → List Slot
  | [] => sl
  | v :: vs => (wipeS sl vs).set v .un
abbrev wipeE (env : Env) (vs : List Nat) : Env := (wipeS env.1 vs, env.2)
abbrev blkX (X : Cx) (scope : Scope) (s : Shared) (H : Hp) (C : Addr) (c : List (Str × Addr)) (fp : List Addr) : Cx := X.blk s H scope (compEnvC scope c C X.env) fp
def wEb (X : Cx) (scope : Scope) (e : Expr) : TE := fun σ H Q => ∀ s H' C c fp, wE (blkX X scope s H' C c fp) e σ H Q
def wGb (X : Cx) (scope : Scope) (e : Expr) : TG := fun v σ H Q => ∀ s H' C c fp, wG (blkX X scope s H' C c fp) e v σ H Q
def wTsb (X : Cx) (scope : Scope) (es : List Expr) : TT := fun σ H Q => ∀ s H' C c fp, wTs (blkX X scope s H' C c fp) es σ H Q
def DTs (X : Cx) (env : Env) (es : List Expr) (b : Bool) : Prop := ∀ (H0 : Hp) (ps : List Addr) (σ : L2.St) (H : Hp), EnvR X.K H0 ps env σ H → ∀ Q : Bool → Hp → Prop, (∀ H2, Same H H2 → Q b H2) → wTs X es σ H Q
section
variable {X : Cx} {env : Env} {m ma mb : Md} {a b e : Expr} {da db d : D} {pos : Pos} {K : PySem.W.Frag} {ds : List D} {H0 H : Hp} {ps : List Addr} {σ : L2.St} {v : V}
theorem dts_nil : DTs X env [] true := fun H0 ps σ H E Q q => pts_nil.w (q H (Same.refl H))
theorem dts_one {k : Bool} (h : DT X env e k) : DTs X env [e] k := fun H0 ps σ H E Q q => (pts_one pw_T).w (h H0 ps σ H E Q q)
theorem EnvR.wipe1 {i : Nat} (E : EnvR K H0 ps env σ H) : EnvR K H0 ps (env.1.set i .un, env.2) (σ.set i none) H where
  same := E.same
  mu := E.mu
  nd := E.nd
  ow := E.ow
  sl := fun j s' h => by
    have h2 : (env.1.set i .un)[j]? = some s' := h
    by_cases e : i = j
    · subst e
      rw [List.getElem?_set] at h2
      simp only [if_pos] at h2
      split at h2
      · obtain rfl := Option.some.inj h2; trivial
      · cases h2
    · rw [List.getElem?_set_ne e] at h2 ⊢
      exact E.sl j s' h2
theorem EnvR.wipe (E : EnvR K H0 ps env σ H) : ∀ vs : List Nat, EnvR K H0 ps (wipeE env vs) (L2.wipe σ vs) H
  | [] => E
  | v :: vs => (EnvR.wipe E vs).wipe1
theorem wipe_idem {vs : List Nat} : L2.wipe (L2.wipe σ vs) vs = L2.wipe σ vs := by
  apply List.ext_getElem?
  intro j
  by_cases hj : j ∈ vs
  · have z : ∀ (τ : L2.St), τ.length = σ.length → (L2.wipe τ vs)[j]? = if j < σ.length then some none else none := fun τ ht => by
      cases e : (L2.wipe τ vs)[j]? with
      | none =>
        have := List.getElem?_eq_none_iff.mp e
        rw [wipe_length, ht] at this
        rw [if_neg (by omega)]
      | some o =>
        have hl := (List.getElem?_eq_some_iff.mp e).1
        rw [wipe_length, ht] at hl
        rw [if_pos hl]
        cases o with
        | none => rfl
        | some x => exact absurd hj (wipe_some e).2
    rw [z _ (wipe_length _ _), z _ rfl]
  · rw [wipe_out hj]
theorem ec_poke {p : Addr} {o : HO} (hp : p ∈ ps) : er ps (cl H0 (upd H p o)) = er ps (cl H0 H) := by
  funext a
  unfold er
  split
  · rfl
  · rename_i hn
    have : a ≠ p := fun e => hn (e ▸ hp)
    unfold cl
    rw [upd_ne this]
theorem EnvR.poke {j : Nat} {p : Addr} {o : HO} (E : EnvR K H0 ps env σ H) (hj : ps[j]? = some p) (hb : env.2.length ≤ j) (ho : isM o) : EnvR K H0 ps env σ (upd H p o) := by
  have hp : p ∈ ps := List.mem_of_getElem? hj
  have hne : ∀ j' d p', env.2[j']? = some d → ps[j']? = some p' → p' ≠ p := fun j' d p' h1 h2 e => by
    subst e
    have l1 := (List.getElem?_eq_some_iff.mp h1).1
    have e2 := nd_ix E.nd h2 hj
    omega
  refine ⟨fun a u e => ?_, fun q hq => ?_, E.nd, fun j' d h => ?_, fun i s h => ?_⟩
  · have h0 := (E.mu p hp).1
    rw [upd_ne (ne_of_none e h0)]
    exact E.same a u e
  · obtain ⟨h1, o', h2, h3⟩ := E.mu q hq
    by_cases e : q = p
    · subst e; exact ⟨h1, o, upd_same, ho⟩
    · exact ⟨h1, o', by rw [upd_ne e]; exact h2, h3⟩
  · obtain ⟨p', h1, h2⟩ := E.ow j' d h
    have ne := hne j' d p' h h1
    refine ⟨p', h1, ?_⟩
    cases d <;> try exact h2.elim
    · obtain ⟨vs, h3, h4⟩ := h2
      exact ⟨vs, by rw [upd_ne ne]; exact h3, by rw [ec_poke hp]; exact h4⟩
    · obtain ⟨vs, h3, h4⟩ := h2
      exact ⟨vs, by rw [upd_ne ne]; exact h3, by rw [ec_poke hp]; exact h4⟩
  · have q := E.sl i s h
    cases s with
    | un => trivial
    | val d => obtain ⟨v, h1, h2⟩ := q; exact ⟨v, h1, by rw [ec_poke hp]; exact h2⟩
    | arg d => exact q
    | own j => exact q
    | fld C f j =>
      obtain ⟨p', dx, q', h1, h2, h3, h4, h5⟩ := q
      exact ⟨p', dx, q', h1, h2, by rw [upd_ne fun z => h5 (by rw [z]; exact hp)]; exact h3, h4, h5⟩
theorem RA.snoc {b : Bool} {xs : List V} {ds : List D} {y : V} (r : RA K b H xs ds) (h : R K b H y d) : RA K b H (xs ++ [y]) (ds ++ [d]) := RA.append r (.cons h .nil)
theorem lc_read {α : Type} {elt tg iter : Expr} {ifs : List Expr} {scope : Scope} {mi : Md} {enc : α → D} {as : List α} {vs J : List Nat} {envs : α → Env} {t : α → Bool} {f : α → D}
    (hi : DI X env mi tg iter (as.map enc)) (hJ : ∀ j ∈ J, j ∈ vs)
    (hg : ∀ a ∈ as, ∀ s H C c fp, DG (blkX X scope s H C c fp) (wipeE env vs) mi tg (enc a) (envs a) J)
    (ht : ∀ a ∈ as, ∀ s H C c fp, DTs (blkX X scope s H C c fp) (envs a) ifs (t a))
    (he : ∀ a ∈ as, t a = true → ∀ s H C c fp, DM (blkX X scope s H C c fp) (envs a) .cl elt (f a)) (hl : as.length ≤ 90000) {σ : L2.St} {H : Hp} {H0 : Hp} {ps : List Addr} (E : EnvR X.K H0 ps env σ H) {Q : VK}
    (q : ∀ p xs H2, Same H H2 → H p = none → H2 p = some (.lst xs) → RA X.K false (er ps (cl H0 H2)) xs ((as.filter t).map f) → p ∉ ps → H0 p = none → Q (.ref p) H2) :
    tLc (wI X tg iter) (wGb X scope tg) (wTsb X scope ifs) (wEb X scope elt) vs σ H Q := by
  refine hi H0 ps σ H E _ fun J' H1 s1 ok D hD => ?_
  have E1 := E.mono s1
  have hDps : D ∉ ps := fun z => by
    obtain ⟨_, o', h2, _⟩ := E1.mu D z
    rw [hD] at h2; cases h2
  have h0D := E1.same.free hD
  refine ⟨fun i mm H2 => i + mm = as.length ∧ ∃ acc : List V, H2 D = some (.lst acc) ∧ RA X.K false (er (ps ++ [D]) (cl H0 H2)) acc (((as.take i).filter t).map f) ∧ EnvR X.K H0 (ps ++ [D]) (wipeE env vs) (L2.wipe σ vs) H2 ∧ (∀ x o, x ≠ D → H1 x = some o → H2 x = some o), ⟨as.length, by omega, [], upd_same, .nil, (E1.more hD (o := .lst []) trivial).wipe vs, fun x o hx h => by rw [upd_ne hx]; exact h⟩, ?_⟩
  rintro i mm H2 ⟨him, acc, hacc, ra, E2, fr⟩
  have frr : Fr ps H1 (ps ++ [D]) H2 := fun x o hx h => by
    have ne : x ≠ D := ne_of_none h hD
    exact ⟨fun z => (List.mem_append.mp z).elim hx fun y => ne (by simpa using y), fr x o ne h⟩
  by_cases hi2 : i < as.length
  · -- one more item
    have hget : as[i]? = some as[i] := List.getElem?_eq_getElem hi2
    have hmem : as[i] ∈ as := List.getElem_mem hi2
    have hgm : (as.map enc)[i]? = some (enc as[i]) := by rw [List.getElem?_map, hget]; rfl
    refine .inr ⟨ok.go i _ H2 _ E2.same frr hgm, fun H' => i + 1 + (mm - 1) = as.length ∧ ∃ acc : List V, H' D = some (.lst acc) ∧ RA X.K false (er (ps ++ [D]) (cl H0 H')) acc (((as.take (i + 1)).filter t).map f) ∧ EnvR X.K H0 (ps ++ [D]) (wipeE env vs) (L2.wipe σ vs) H' ∧ (∀ x o, x ≠ D → H1 x = some o → H' x = some o), fun H' h => ⟨mm - 1, by omega, h⟩, fun x H3 hy => ?_⟩
    obtain ⟨s3, rx⟩ := ok.yld i _ H2 _ x H3 E2.same frr (fun p hp => by obtain ⟨_, o, h2, _⟩ := E2.mu p hp; exact ⟨o, h2⟩) hgm hy
    intro s Hb C c fp
    refine hg as[i] hmem s Hb C c fp H0 _ _ H3 x (E2.mono s3) rx _ fun σ' E4 hw => ⟨(hw vs hJ).trans wipe_idem, fun s Hb C c fp => ?_⟩
    refine ht as[i] hmem s Hb C c fp H0 _ _ H3 E4 _ fun H5 s5 => ?_
    have take_succ : as.take (i + 1) = as.take i ++ [as[i]] := by rw [List.take_add_one, hget]; rfl
    have keep : ∀ (H6 : Hp), Same H2 H6 → (∀ x o, x ≠ D → H1 x = some o → H6 x = some o) := fun H6 s6 x o hx h => s6 _ _ (fr x o hx h)
    cases hb : t as[i] with
    | false =>
      rw [if_neg Bool.false_ne_true]
      have s6 : Same H2 H5 := s3.trans s5
      refine ⟨by omega, acc, s6 _ _ hacc, ?_, E2.mono s6, keep _ s6⟩
      rw [take_succ, List.filter_append, List.map_append]
      simp only [List.filter_cons, hb, List.filter_nil]
      simpa using RA.mono (ec_mono s6) id ra
    | true =>
      rw [if_pos rfl]
      intro s Hb C c fp
      refine he as[i] hmem hb s Hb C c fp H0 _ _ H5 (E4.mono s5) _ fun y H6 s6 ry => ?_
      have s7 : Same H2 H6 := (s3.trans s5).trans s6
      have hlen : acc.length ≤ i := by
        rw [RA.length ra, List.length_map]
        exact Nat.le_trans (List.length_filter_le _ _) (by rw [List.length_take]; omega)
      refine ⟨acc, s7 _ _ hacc, szlt (by omega), by omega, acc ++ [y], upd_same, ?_, ?_, fun x o hx h => by rw [upd_ne hx]; exact keep _ s7 x o hx h⟩
      · have hDm : D ∈ ps ++ [D] := by simp
        rw [ec_poke hDm, take_succ, List.filter_append, List.map_append]
        simp only [List.filter_cons, hb, List.filter_nil, if_pos]
        exact RA.snoc (RA.mono (ec_mono s7) id ra) ry
      · refine (E2.mono s7).poke (j := ps.length) (by simp) ?_ trivial
        show env.2.length ≤ ps.length
        cases hq : env.2 with
        | nil => simp
        | cons d0 r0 =>
          obtain ⟨p, h1, _⟩ := E.ow (env.2.length - 1) ((d0 :: r0)[(d0 :: r0).length - 1]'(by simp)) (by rw [hq]; simp)
          have := (List.getElem?_eq_some_iff.mp h1).1
          rw [hq] at this
          simp at this ⊢
          omega
  · -- the end
    have hi3 : i = as.length := by omega
    refine .inl ⟨ok.stop i _ H2 E2.same frr (by rw [List.length_map]; omega), q _ acc H2 (fun x o h => ?_) (s1.free hD) hacc ?_ hDps h0D⟩
    · have h1 := s1 _ _ h
      exact fr x o (ne_of_none h1 hD) h1
    · rw [hi3, List.take_length] at ra
      exact RA.mono (er_sub fun p hp => List.mem_append_left _ hp) id ra
theorem lst_cl {p : Addr} {xs : List V} {ds : List D} (hp : p ∉ ps) (h0 : H0 p = none) (h : H p = some (.lst xs)) (ra : RA K false (er ps (cl H0 H)) xs ds) : R K false (er ps (cl H0 H)) (.ref p) (.lst ds) := by
  refine .lst ?_ ra
  unfold er
  rw [if_neg hp]
  exact cl_new h0 h
theorem dm_lc {α : Type} {elt tg iter : Expr} {ifs : List Expr} {scope : Scope} {own : List (Str × Nat)} {mi : Md} {enc : α → D} {as : List α} {J : List Nat} {envs : α → Env} {t : α → Bool} {f : α → D}
    (hc : X.calm = true) (hN : X.N.Nodup) (ok : blkC X.N X.env.scope scope own = true) (hi : DI X env mi tg iter (as.map enc)) (hJ : ∀ j ∈ J, j ∈ own.map (·.2))
    (hg : ∀ a ∈ as, ∀ s H C c fp, DG (blkX X scope s H C c fp) (wipeE env (own.map (·.2))) mi tg (enc a) (envs a) J)
    (ht : ∀ a ∈ as, ∀ s H C c fp, DTs (blkX X scope s H C c fp) (envs a) ifs (t a))
    (he : ∀ a ∈ as, t a = true → ∀ s H C c fp, DM (blkX X scope s H C c fp) (envs a) .cl elt (f a)) (hl : as.length ≤ 90000) (hs : ∀ x, foldedSetIterable iter X.env x = pure x := by intro _; rfl) :
    DM X env .cl (.ListComp elt [⟨tg, iter, ifs, 0⟩] scope pos) (.lst ((as.filter t).map f)) := fun H0 ps σ H E Q q =>
  (pe_lc (g := wGb X scope tg) (tt := wTsb X scope ifs) (te := wEb X scope elt) hc hN pw_I (blkOk_by ok) (fun s H C c fp => ⟨fun pins s' σ H v u Q I r h => (h _ _ _ _ _).run pins s' u I r⟩) (fun s H C c fp => ⟨fun pins s' σ H Q I h => (h _ _ _ _ _).run pins s' I⟩)
    (fun s H C c fp => ⟨fun pins s' σ H Q I h => (h _ _ _ _ _).run pins s' I⟩) hs).w (lc_read hi hJ hg ht he hl E fun p xs H2 sm _ hp ra hn h0 => q _ H2 sm (lst_cl hn h0 hp ra))
theorem dm_lcM {α : Type} {elt tg iter : Expr} {scope : Scope} {own : List (Str × Nat)} {mi : Md} {enc : α → D} {as : List α} {J : List Nat} {envs : α → Env} {f : α → D}
    (hc : X.calm = true) (hN : X.N.Nodup) (ok : blkC X.N X.env.scope scope own = true) (hi : DI X env mi tg iter (as.map enc)) (hJ : ∀ j ∈ J, j ∈ own.map (·.2))
    (hg : ∀ a ∈ as, ∀ s H C c fp, DG (blkX X scope s H C c fp) (wipeE env (own.map (·.2))) mi tg (enc a) (envs a) J)
    (he : ∀ a ∈ as, ∀ s H C c fp, DM (blkX X scope s H C c fp) (envs a) .cl elt (f a)) (hl : as.length ≤ 90000) (hs : ∀ x, foldedSetIterable iter X.env x = pure x := by intro _; rfl) :
    DM X env .cl (.ListComp elt [⟨tg, iter, [], 0⟩] scope pos) (.lst (as.map f)) := by
  have h := dm_lc (pos := pos) (t := fun _ => true) hc hN ok hi hJ hg (fun a ha s H C c fp => dts_nil) (fun a ha _ => he a ha) hl hs
  rw [List.filter_eq_self.mpr (fun _ _ => rfl)] at h
  exact h
theorem enD_map {α : Type} {enc : α → D} {as : List α} : enD (as.map enc) = as.zipIdx.map fun p => D.tup [.int (p.2 : Nat), enc p.1] := by
  unfold enD
  apply List.ext_getElem?
  intro i
  rw [List.getElem?_mapIdx, List.getElem?_map, List.getElem?_map, List.getElem?_zipIdx]
  cases as[i]? <;> simp
end
structure Post where
  nx : Env → Prop
  rt : D → Prop
  bk : Env → Prop := fun _ => False
  ct : Env → Prop := fun _ => False
structure EndsOk (K : PySem.W.Frag) (H0 : Hp) (ps : List Addr) (H : Hp) (P : Post) (De : Ends) : Prop where
  nx : ∀ env' ps' σ' H', P.nx env' → EnvR K H0 ps' env' σ' H' → ps'.length = env'.2.length → Fr ps H ps' H' → De.nx σ' H'
  rt : ∀ d v H', P.rt d → Same H0 H' → R K false (cl H0 H') v d → De.rt v H'
  bk : ∀ env' ps' σ' H', P.bk env' → EnvR K H0 ps' env' σ' H' → ps'.length = env'.2.length → Fr ps H ps' H' → De.bk σ' H'
  ct : ∀ env' ps' σ' H', P.ct env' → EnvR K H0 ps' env' σ' H' → ps'.length = env'.2.length → Fr ps H ps' H' → De.ct σ' H'
def DSs (X : Cx) (env : Env) (sts : List Stmt) (P : Post) : Prop := ∀ (H0 : Hp) (ps : List Addr) (σ : L2.St) (H : Hp), EnvR X.K H0 ps env σ H → ps.length = env.2.length → ∀ De : Ends, EndsOk X.K H0 ps H P De → wSs X sts De σ H
theorem EndsOk.step {K : PySem.W.Frag} {H0 : Hp} {ps ps1 : List Addr} {H H1 : Hp} {P : Post} {De : Ends} (h : EndsOk K H0 ps H P De) (f : Fr ps H ps1 H1) : EndsOk K H0 ps1 H1 P De :=
  ⟨fun e p s h' q E l g => h.nx e p s h' q E l (f.trans g), h.rt, fun e p s h' q E l g => h.bk e p s h' q E l (f.trans g), fun e p s h' q E l g => h.ct e p s h' q E l (f.trans g)⟩
section
variable {X : Cx} {env : Env} {m ma mb : Md} {a b e : Expr} {da db d : D} {pos : Pos} {K : PySem.W.Frag} {ds : List D} {H0 H : Hp} {ps : List Addr} {σ : L2.St} {v : V} {P : Post} {rest : List Stmt}
theorem dss_nil (h : P.nx env) : DSs X env [] P := fun H0 ps σ H E l De ok => pss_nil.w (ok.nx env ps σ H h E l (Fr.refl _ _))
theorem dss_of {st : Stmt} {t : TS} (h : PS X st t) (q : ∀ H0 ps σ H, EnvR X.K H0 ps env σ H → ps.length = env.2.length → ∀ De : Ends, EndsOk X.K H0 ps H P De → t { De with nx := wSs X rest De } σ H) : DSs X env (st :: rest) P := fun H0 ps σ H E l De ok =>
  (pss_cons h pw_Ss).w (q H0 ps σ H E l De ok)
theorem dss_set (i : Nat) {x : Str} {p : Pos} (hN : X.N.Nodup) (h : DM X env m e d) (h2 : DSs X (env.1.set i (slotOf m d), env.2) rest P) (hi : X.N[i]? = some x := by rfl) (hx : Loc X.env.scope x := by first | exact Or.inl rfl | exact Or.inr rfl) (hs : swapsWith e (some (.Name x p)) pos.line X.env = pure false := by rfl)
    (hf : X.fn x = true ∨ X.env.scope.names.lookup x = some .local := by first | exact .inl rfl | exact .inr rfl) : DSs X env (.Assign [.Name x p] e pos :: rest) P := dss_of (ps_set hN hi hx pw_E hs hf) fun H0 ps σ H E l De ok =>
  h H0 ps σ H E _ fun v H1 s1 r1 => ⟨fun pins s I => by
    have hlen : i < σ.length := by
      have z := I.len
      rw [List.length_set] at z
      rw [z]; exact (List.getElem?_eq_some_iff.mp hi).1
    exact (h2 H0 ps _ H1 ((E.mono s1).put hlen (slotOf_ok r1)) l De (ok.step (Fr.of_same s1))).run pins s I⟩
end
end DW
set_option Elab.async false
set_option linter.all false
set_option maxRecDepth 100000
set_option maxHeartbeats 2000000
namespace DW
open PySem PySem.Spec L2
def lookD (kvs : List (Int × D)) (k : Int) : Option D := (kvs.find? fun p => decide (p.1 = k)).map (·.2)
def putD (kvs : List (Int × D)) (k : Int) (d : D) : List (Int × D) := match kvs with
  | [] => [(k, d)]
  | p :: r => if p.1 = k then (k, d) :: r.map (fun q => if q.1 = k then (q.1, d) else q) else p :: putD r k d
section
variable {K : PySem.W.Frag} {b : Bool} {H : Hp}
theorem RK.look {kvs : List (Key × V)} {ds : List (Int × D)} {k : Int} (r : RK K b H kvs ds) : (valV kvs (.inl k : Key) = none ∧ lookD ds k = none) ∨ ∃ v d, valV kvs (.inl k : Key) = some v ∧ lookD ds k = some d ∧ R K b H v d := by
  induction ds generalizing kvs with
  | nil => cases r; exact .inl ⟨rfl, rfl⟩
  | cons p ds ih =>
    cases r with
    | @cons k' v vs d _ h r =>
      by_cases e : k' = k
      · subst e
        refine .inr ⟨_, _, valV_pos rfl, ?_, h⟩
        simp [lookD]
      · have e2 : ¬ (Sum.inl k' : Key) = Sum.inl k := fun z => e (Sum.inl.inj z)
        have e3 : lookD ((k', d) :: ds) k = lookD ds k := by simp [lookD, e]
        rw [valV_neg e2, e3]
        exact ih r
theorem RK.map_put {kvs : List (Key × V)} {ds : List (Int × D)} {k : Int} {v : V} {d : D} (h : R K b H v d) (r : RK K b H kvs ds) : RK K b H (kvs.map fun kv => if kv.1 = (.inl k : Key) then (kv.1, v) else kv) (ds.map fun q => if q.1 = k then (q.1, d) else q) := by
  induction ds generalizing kvs with
  | nil => cases r; exact .nil
  | cons p ds ih =>
    cases r with
    | @cons k' v' vs d' _ h0 r =>
      rw [List.map_cons, List.map_cons]
      by_cases e : k' = k
      · subst e
        rw [if_pos rfl, if_pos rfl]
        exact .cons h (ih r)
      · rw [if_neg (fun z => e (Sum.inl.inj z)), if_neg e]
        exact .cons h0 (ih r)
theorem RK.put {kvs : List (Key × V)} {ds : List (Int × D)} {k : Int} {v : V} {d : D} (h : R K b H v d) (r : RK K b H kvs ds) : RK K b H (putK kvs (.inl k) v) (putD ds k d) := by
  unfold putK
  rcases r.look (k := k) with ⟨e1, e2⟩ | ⟨v', d', e1, e2, _⟩
  · have hn : (kvs.any fun kv => decide (kv.1 = (.inl k : Key))) = false := by rw [valV_any, e1]; rfl
    rw [hn]
    simp only [Bool.false_eq_true, if_false]
    clear hn
    induction ds generalizing kvs with
    | nil => cases r; exact .cons h .nil
    | cons p ds ih =>
      cases r with
      | @cons k' v' vs d' _ h0 r =>
        have ne : ¬ k' = k := fun z => by
          subst z
          simp [lookD] at e2
        have e1' : valV vs (.inl k : Key) = none := by rw [valV_neg (fun z => ne (Sum.inl.inj z))] at e1; exact e1
        have e2' : lookD ds k = none := by simpa [lookD, ne] using e2
        rw [putD, if_neg ne]
        exact .cons h0 (ih r e1' e2')
  · have hy : (kvs.any fun kv => decide (kv.1 = (.inl k : Key))) = true := by rw [valV_any, e1]; rfl
    rw [hy]
    simp only [if_true]
    clear hy
    induction ds generalizing kvs with
    | nil => simp [lookD] at e2
    | cons p ds ih =>
      cases r with
      | @cons k' v'' vs d'' _ h0 r =>
        rw [List.map_cons]
        by_cases ne : k' = k
        · subst ne
          rw [putD, if_pos rfl, if_pos rfl]
          exact .cons h (r.map_put h)
        · have e1' : valV vs (.inl k : Key) = some v' := by rw [valV_neg (fun z => ne (Sum.inl.inj z))] at e1; exact e1
          have e2' : lookD ds k = some d' := by simpa [lookD, ne] using e2
          rw [putD, if_neg ne, if_neg (fun z => ne (Sum.inl.inj z))]
          exact .cons h0 (ih r e1' e2')
theorem RK.length {kvs : List (Key × V)} {ds : List (Int × D)} (r : RK K b H kvs ds) : kvs.length = ds.length := by
  induction ds generalizing kvs with
  | nil => cases r; rfl
  | cons p ds ih => cases r with | cons h r => simp [ih r]
theorem RK.keys {kvs : List (Key × V)} {ds : List (Int × D)} (r : RK K b H kvs ds) : kvs.map (·.1) = (ds.map (·.1)).map Sum.inl := by
  induction ds generalizing kvs with
  | nil => cases r; rfl
  | cons p ds ih => cases r with | cons h r => simp [ih r]
end
section
variable {X : Cx} {env : Env} {m ma mb : Md} {a b e : Expr} {da db d : D} {pos : Pos} {K : PySem.W.Frag} {ds : List D} {H0 H : Hp} {ps : List Addr} {σ : L2.St} {v : V} {P : Post} {rest : List Stmt}
theorem len_set {pins : List (Addr × Obj)} {s : Shared} {i : Nat} {y : Option V} {x : Str} (I : Inv X pins (List.set σ i y) H s) (hi : X.N[i]? = some x) : i < σ.length := by
  have z := I.len
  rw [List.length_set] at z
  rw [z]
  exact (List.getElem?_eq_some_iff.mp hi).1
theorem RM.lstNew (r : RM K .cl H0 ps H v (.lst ds)) (E : EnvR K H0 ps env σ H) : ∃ p xs, v = .ref p ∧ H p = some (.lst xs) ∧ p ∉ ps ∧ H0 p = none ∧ RA K false (er ps (cl H0 H)) xs ds := by
  obtain ⟨p, xs, e, h, q⟩ := R.lstI r
  have hp : p ∉ ps := fun z => by
    unfold er at h
    rw [if_pos z] at h
    cases h
  have h2 : cl H0 H p = some (.lst xs) := by
    unfold er at h
    rw [if_neg hp] at h
    exact h
  refine ⟨p, xs, e, cl_le _ _ _ _ h2, hp, ?_, q⟩
  cases z : H0 p with
  | none => rfl
  | some u =>
    obtain ⟨vs, e2, _⟩ := cl_old z h2
    cases e2
def DN (X : Cx) (env : Env) (e : Expr) (ds : List D) : Prop := ∀ (H0 : Hp) (ps : List Addr) (σ : L2.St) (H : Hp), EnvR X.K H0 ps env σ H → ∀ Q : VK, (∀ p xs H2, Same H H2 → H p = none → H2 p = some (.lst xs) → RA X.K true H2 xs ds → Q (.ref p) H2) → wE X e σ H Q
theorem dn_nil : DN X env (.List [] pos) [] := fun H0 ps σ H E Q q => (pe_lst pa_nil).w ⟨Nat.zero_le _, fun p hp => q p [] _ (same_upd hp) hp upd_same .nil⟩
theorem dn_lst {es : List Expr} (h : DA X env .any es ds) (hl : ds.length ≤ 100000 := by decide) : DN X env (.List es pos) ds := fun H0 ps σ H E Q q =>
  (pe_lst pw_A).w (h H0 ps σ H E _ fun vs H1 s1 r1 => ⟨by rw [RMA.length r1]; exact szl hl, fun p hp => q p vs _ (s1.trans (same_upd hp)) (s1.free hp) upd_same (RA.mono (same_upd hp) id r1)⟩)
theorem dn_call {x : Str} {p : Pos} {es : List Expr} {args : List D} {k j : Nat} {Rel : List D → D → Prop} (C : CallOk X.prog X.w X.K X.mg X.base x k Rel) (hr : Room j X.A) (ha : DA X env .any (e :: es) args) (h : Rel args (.lst ds)) (hk : k ≤ j := by decide) (hg : Gl X x := by rfl)
    (hdb : (x == ("__debug__" : Str)) = false := by decide) (he : starEach (e :: es) X.env = (false, eval e X.env) :: starEach es X.env := by rfl) (hpl : (backTo pos (starEach es X.env)).any (·.1) = false := by rfl) :
    DN X env (.Call (.Name x p) (e :: es) [] pos) ds := fun H0 ps σ H E Q q => by
  obtain ⟨CX, f, fd, qs, hx, hm, kp, hb, F⟩ := C
  refine (pe_call F (hr.mono hk) hg hm kp hb .nil (hx X rfl rfl) pw_A hdb he hpl).w (ha H0 ps σ H E _ fun vs H1 s1 r1 => ?_)
  refine ⟨args, _, by rw [List.append_nil]; exact r1, h, fun v H' s2 r2 => ?_⟩
  obtain ⟨a, xs, rfl, ha, ra⟩ := R.lstI r2
  have h1 : H1 a = none := by
    cases z : H1 a with
    | none => rfl
    | some u =>
      obtain ⟨vs, e2, _⟩ := cl_old z ha
      cases e2
  exact q a xs H' (s1.trans s2) (s1.free h1) (cl_le _ _ _ _ ha) (RA.mono (b := false) (cl_le _ _) (fun z => nomatch z) ra)
theorem dn_list {x1 : Pos} (ml : X.mg "list" = none) (h : DM X env m e (.lst ds)) (hg : Gl X "list" := by rfl) (he : starEach (e :: []) X.env = (false, eval e X.env) :: starEach [] X.env := by rfl) (hpl : (backTo pos (starEach [] X.env)).any (·.1) = false := by rfl) :
    DN X env (.Call (.Name "list" x1) [e] [] pos) ds := fun H0 ps σ H E Q q =>
  (pe_callTy call_list_of hg ml (by decide +kernel) pw_A (he := he) (hpl := hpl)).w ((da_any h da_nil he) H0 ps σ H E _ fun vs H1 s1 rr => by
    obtain ⟨v, rfl, r⟩ := RMA.one rr
    obtain ⟨p, xs, rfl, hs, ra⟩ := RM.seq r (E.same.trans s1)
    exact ⟨p, xs, rfl, .inl hs, fun x hx => q x xs _ (s1.trans (same_upd hx)) (s1.free hx) upd_same (RA.mono (same_upd hx) id ra)⟩)
theorem dn_lc {α : Type} {elt tg iter : Expr} {ifs : List Expr} {scope : Scope} {own : List (Str × Nat)} {mi : Md} {enc : α → D} {as : List α} {J : List Nat} {envs : α → Env} {t : α → Bool} {f : α → D}
    (hc : X.calm = true) (hN : X.N.Nodup) (ok : blkC X.N X.env.scope scope own = true) (hi : DI X env mi tg iter (as.map enc)) (hJ : ∀ j ∈ J, j ∈ own.map (·.2))
    (hg : ∀ a ∈ as, ∀ s H C c fp, DG (blkX X scope s H C c fp) (wipeE env (own.map (·.2))) mi tg (enc a) (envs a) J)
    (ht : ∀ a ∈ as, ∀ s H C c fp, DTs (blkX X scope s H C c fp) (envs a) ifs (t a))
    (he : ∀ a ∈ as, t a = true → ∀ s H C c fp, DM (blkX X scope s H C c fp) (envs a) .cl elt (f a)) (hl : as.length ≤ 90000) (hs : ∀ x, foldedSetIterable iter X.env x = pure x := by intro _; rfl) :
    DN X env (.ListComp elt [⟨tg, iter, ifs, 0⟩] scope pos) ((as.filter t).map f) := fun H0 ps σ H E Q q =>
  (pe_lc (g := wGb X scope tg) (tt := wTsb X scope ifs) (te := wEb X scope elt) hc hN pw_I (blkOk_by ok) (fun s H C c fp => ⟨fun pins s' σ H v u Q I r h => (h _ _ _ _ _).run pins s' u I r⟩) (fun s H C c fp => ⟨fun pins s' σ H Q I h => (h _ _ _ _ _).run pins s' I⟩)
    (fun s H C c fp => ⟨fun pins s' σ H Q I h => (h _ _ _ _ _).run pins s' I⟩) hs).w (lc_read hi hJ hg ht he hl E fun p xs H2 sm hp h2 ra _ _ => q p xs H2 sm hp h2 (RA.mono (b := false) ec_le (fun z => nomatch z) ra))
theorem EnvR.addOwn {p : Addr} {o : HO} {H1 : Hp} (E : EnvR K H0 ps env σ H) (hl : ps.length = env.2.length) (s1 : Same H H1) (hp : H p = none) (hp1 : H1 p = some o) (ho : isM o) (hd : OwnR K H0 (ps ++ [p]) H1 p d) : EnvR K H0 (ps ++ [p]) (env.1, env.2 ++ [d]) σ H1 := by
  have hn : p ∉ ps := fun z => by
    obtain ⟨_, o', h2, _⟩ := E.mu p z
    rw [hp] at h2; cases h2
  have ee : Same (er ps (cl H0 H)) (er (ps ++ [p]) (cl H0 H1)) := fun a u e => by
    have e1 := ec_mono s1 a u e
    have hap : a ≠ p := ne_of_none (ec_le a u e) hp
    unfold er at e1 ⊢
    split at e1
    · cases e1
    · rename_i z
      rw [if_neg fun y => ?_]
      · exact e1
      · rcases List.mem_append.mp y with y | y
        · exact z y
        · exact hap (by simpa using y)
  refine ⟨E.same.trans s1, fun q hq => ?_, ?_, fun j d' e => ?_, fun i s e => ?_⟩
  · rcases List.mem_append.mp hq with y | y
    · obtain ⟨h1, o', h2, h3⟩ := E.mu q y
      exact ⟨h1, o', s1 _ _ h2, h3⟩
    · obtain rfl : q = p := by simpa using y
      exact ⟨E.same.free hp, o, hp1, ho⟩
  · exact List.nodup_append.mpr ⟨E.nd, by simp, fun a ha b hb z => hn (by
      have : b = p := by simpa using hb
      rw [← this, ← z]; exact ha)⟩
  · have e' : (env.2 ++ [d])[j]? = some d' := e
    rw [List.getElem?_append] at e'
    split at e'
    · obtain ⟨q, h1, h2⟩ := E.ow j d' e'
      have hj : j < ps.length := (List.getElem?_eq_some_iff.mp h1).1
      refine ⟨q, by rw [List.getElem?_append_left hj]; exact h1, ?_⟩
      cases d' <;> try exact h2.elim
      · obtain ⟨vs, h3, h4⟩ := h2
        exact ⟨vs, s1 _ _ h3, RA.mono ee id h4⟩
      · obtain ⟨vs, h3, h4⟩ := h2
        exact ⟨vs, s1 _ _ h3, RK.mono ee id h4⟩
    · rename_i hj
      have hj0 : j - env.2.length = 0 := by
        have := (List.getElem?_eq_some_iff.mp e').1
        simp at this
        omega
      rw [hj0] at e'
      have : d = d' := Option.some.inj e'
      subst this
      refine ⟨p, ?_, hd⟩
      rw [List.getElem?_append_right (by omega)]
      have : j - ps.length = 0 := by omega
      rw [this]; rfl
  · have q := E.sl i s e
    cases s with
    | un => trivial
    | val d =>
      obtain ⟨v, h1, h2⟩ := q
      exact ⟨v, h1, R.mono ee id h2⟩
    | arg d => exact q
    | own j =>
      obtain ⟨p', h1, h2⟩ := q
      have hj : j < ps.length := (List.getElem?_eq_some_iff.mp h2).1
      exact ⟨p', h1, by rw [List.getElem?_append_left hj]; exact h2⟩
    | fld C f j =>
      obtain ⟨p', dx, q', h1, h2, h3, h4, h5⟩ := q
      have hj : j < ps.length := (List.getElem?_eq_some_iff.mp h4).1
      exact ⟨p', dx, q', h1, h2, s1 _ _ h3, by rw [List.getElem?_append_left hj]; exact h4, fun z => (List.mem_append.mp z).elim h5 fun y => by
        obtain rfl : p' = p := by simpa using y
        rw [hp] at h3; cases h3⟩
theorem tups_ec (h : ∀ p ∈ ps, ∃ o, H p = some o ∧ isM o) : Tups H (er ps (cl H0 H)) := fun a xs e => by
  unfold er
  rw [if_neg fun z => ?_]
  · exact cl_tup e
  · obtain ⟨o', h2, h3⟩ := h a z
    rw [e] at h2; cases h2; exact h3
theorem Fr.app {p : Addr} {H1 : Hp} (s1 : Same H H1) (hp : H p = none) : Fr ps H (ps ++ [p]) H1 := fun a o ha h => ⟨fun z => (List.mem_append.mp z).elim ha fun y => (by
  have : a = p := by simpa using y
  subst this
  rw [hp] at h; cases h), s1 a o h⟩
theorem dss_setN (i : Nat) {x : Str} {p : Pos} (hN : X.N.Nodup) (h : DN X env e ds) (hi' : immA ds = true) (h2 : DSs X (env.1.set i (.own env.2.length), env.2 ++ [.lst ds]) rest P) (hi : X.N[i]? = some x := by rfl) (hx : Loc X.env.scope x := by first | exact Or.inl rfl | exact Or.inr rfl) (hs : swapsWith e (some (.Name x p)) pos.line X.env = pure false := by rfl)
    (hf : X.fn x = true ∨ X.env.scope.names.lookup x = some .local := by first | exact .inl rfl | exact .inr rfl) : DSs X env (.Assign [.Name x p] e pos :: rest) P := dss_of (ps_set hN hi hx pw_E hs hf) fun H0 ps σ H E l De ok =>
  h H0 ps σ H E _ fun q xs H1 s1 hq hq1 ra => ⟨fun pins s I => by
    have hlen := len_set I hi
    have mu1 : ∀ r ∈ ps ++ [q], ∃ o, H1 r = some o ∧ isM o := fun r hr => by
      rcases List.mem_append.mp hr with y | y
      · obtain ⟨_, o', h2, h3⟩ := E.mu r y
        exact ⟨o', s1 _ _ h2, h3⟩
      · obtain rfl : r = q := by simpa using y
        exact ⟨_, hq1, trivial⟩
    have E1 : EnvR X.K H0 (ps ++ [q]) (env.1, env.2 ++ [.lst ds]) σ H1 := E.addOwn l s1 hq hq1 trivial ⟨xs, hq1, RA.imm (tups_ec mu1) hi' ra⟩
    have E2 : EnvR X.K H0 (ps ++ [q]) (env.1.set i (.own env.2.length), env.2 ++ [.lst ds]) (List.set σ i (some (.ref q))) H1 := E1.put hlen ⟨q, rfl, by rw [← l]; simp⟩
    exact (h2 H0 _ _ H1 E2 (by simp [l]) De (ok.step (Fr.app s1 hq))).run pins s I⟩
theorem dss_setD (i : Nat) {x : Str} {p : Pos} (hN : X.N.Nodup) (h2 : DSs X (env.1.set i (.own env.2.length), env.2 ++ [.dic []]) rest P) (hi : X.N[i]? = some x := by rfl) (hx : Loc X.env.scope x := by first | exact Or.inl rfl | exact Or.inr rfl) {p2 : Pos} (hs : swapsWith (.Dict [] [] p2) (some (.Name x p)) pos.line X.env = pure false := by rfl)
    (hf : X.fn x = true ∨ X.env.scope.names.lookup x = some .local := by first | exact .inl rfl | exact .inr rfl) : DSs X env (.Assign [.Name x p] (.Dict [] [] p2) pos :: rest) P := dss_of (ps_set hN hi hx pe_dnewK hs hf) fun H0 ps σ H E l De ok => fun q hq => ⟨fun pins s I => by
    have hlen := len_set I hi
    have s1 : Same H (upd H q (.dK [])) := same_upd hq
    have E1 : EnvR X.K H0 (ps ++ [q]) (env.1, env.2 ++ [.dic []]) σ (upd H q (.dK [])) := E.addOwn l s1 hq upd_same trivial ⟨[], upd_same, .nil⟩
    have E2 : EnvR X.K H0 (ps ++ [q]) (env.1.set i (.own env.2.length), env.2 ++ [.dic []]) (List.set σ i (some (.ref q))) (upd H q (.dK [])) := E1.put hlen ⟨q, rfl, by rw [← l]; simp⟩
    exact (h2 H0 _ _ _ E2 (by simp [l]) De (ok.step (Fr.app s1 hq))).run pins s I⟩
theorem EnvR.pokeOwn {j : Nat} {p : Addr} {o : HO} (E : EnvR K H0 ps env σ H) (hj : ps[j]? = some p) (ho : isM o) (hd : OwnR K H0 ps (upd H p o) p d) : EnvR K H0 ps (env.1, env.2.set j d) σ (upd H p o) := by
  have hp : p ∈ ps := List.mem_of_getElem? hj
  refine ⟨fun a u e => ?_, fun q hq => ?_, E.nd, fun j' d' h => ?_, fun i s h => ?_⟩
  · have h0 := (E.mu p hp).1
    rw [upd_ne (ne_of_none e h0)]
    exact E.same a u e
  · obtain ⟨h1, o', h2, h3⟩ := E.mu q hq
    by_cases e : q = p
    · subst e; exact ⟨h1, o, upd_same, ho⟩
    · exact ⟨h1, o', by rw [upd_ne e]; exact h2, h3⟩
  · have h' : (env.2.set j d)[j']? = some d' := h
    by_cases e : j = j'
    · subst e
      rw [List.getElem?_set] at h'
      simp only [if_pos] at h'
      split at h'
      · have : d = d' := Option.some.inj h'
        subst this
        exact ⟨p, hj, hd⟩
      · cases h'
    · rw [List.getElem?_set_ne e] at h'
      obtain ⟨p', h1, h2⟩ := E.ow j' d' h'
      have ne : p' ≠ p := fun z => by
        subst z
        exact e (nd_ix E.nd hj h1)
      refine ⟨p', h1, ?_⟩
      cases d' <;> try exact h2.elim
      · obtain ⟨vs, h3, h4⟩ := h2
        exact ⟨vs, by rw [upd_ne ne]; exact h3, by rw [ec_poke hp]; exact h4⟩
      · obtain ⟨vs, h3, h4⟩ := h2
        exact ⟨vs, by rw [upd_ne ne]; exact h3, by rw [ec_poke hp]; exact h4⟩
  · have q := E.sl i s h
    cases s with
    | un => trivial
    | val d => obtain ⟨v, h1, h2⟩ := q; exact ⟨v, h1, by rw [ec_poke hp]; exact h2⟩
    | arg d => exact q
    | own j => exact q
    | fld C f j =>
      obtain ⟨p', dx, q', h1, h2, h3, h4, h5⟩ := q
      exact ⟨p', dx, q', h1, h2, by rw [upd_ne fun z => h5 (by rw [z]; exact hp)]; exact h3, h4, h5⟩
theorem Fr.poke {p : Addr} {o : HO} (hp : p ∈ ps) : Fr ps H ps (upd H p o) := fun a u ha h => ⟨ha, by rw [upd_ne fun e => ha (by rw [e]; exact hp)]; exact h⟩
theorem EnvR.ownLst {i j : Nat} (E : EnvR K H0 ps env σ H) (h : env.1[i]? = some (.own j)) (h2 : env.2[j]? = some (.lst ds)) : ∃ p xs, σ[i]? = some (some (.ref p)) ∧ ps[j]? = some p ∧ H p = some (.lst xs) ∧ RA K false (er ps (cl H0 H)) xs ds := by
  obtain ⟨p, h3, h4⟩ := E.sl i _ h
  obtain ⟨p', h5, vs, h6, h7⟩ := E.ow j _ h2
  obtain rfl : p' = p := Option.some.inj (h5.symm.trans h4)
  exact ⟨p', vs, h3, h5, h6, h7⟩
theorem EnvR.ownDic {i j : Nat} {ds : List (Int × D)} (E : EnvR K H0 ps env σ H) (h : env.1[i]? = some (.own j)) (h2 : env.2[j]? = some (.dic ds)) : ∃ p xs, σ[i]? = some (some (.ref p)) ∧ ps[j]? = some p ∧ H p = some (.dK xs) ∧ RK K false (er ps (cl H0 H)) xs ds := by
  obtain ⟨p, h3, h4⟩ := E.sl i _ h
  obtain ⟨p', h5, vs, h6, h7⟩ := E.ow j _ h2
  obtain rfl : p' = p := Option.some.inj (h5.symm.trans h4)
  exact ⟨p', vs, h3, h5, h6, h7⟩
theorem dss_app (i : Nat) {j : Nat} {x : Str} {p apos cpos : Pos} (h : DM X env m e d) (hi' : DW.imm d = true) (h2 : DSs X (env.1, env.2.set j (.lst (ds ++ [d]))) rest P) (hl : ds.length < 100000) (hs : env.1[i]? = some (.own j) := by rfl) (ho : env.2[j]? = some (.lst ds) := by rfl) (hN : X.N[i]? = some x := by rfl) (hv : Vis X.env.scope x := by first | exact Or.inl rfl | exact Or.inr (Or.inl rfl) | exact Or.inr (Or.inr rfl)) (hd : (x == ("__debug__" : Str)) = false := by decide)
    (hcd : (x == ("__classdict__" : Str)) = false := by decide) (hbase : attributeBase (.Name x p) "append" X.env (eval (.Name x p) X.env) = eval (.Name x p) X.env := by rfl)
    (hfew : ((backTo cpos (starEach (e :: []) X.env)).all (fun x => !x.1) && (backToKw cpos (keywordEach [] X.env)).all (fun x => x.1.isSome) && decide ((e :: []).length + ([] : List Keyword).length + (if ([] : List Keyword).isEmpty then 0 else 1) < 30)) = true := by rfl)
    (hline : (apos.endLine == cpos.line) = true := by rfl) (hst : starEach (e :: []) X.env = (false, eval e X.env) :: starEach [] X.env := by rfl) (hplain : (backTo cpos (starEach [] X.env)).any (·.1) = false := by rfl)
    (hsw : swapsWith (.Call (.Attribute (.Name x p) "append" apos) [e] [] cpos) none pos.line X.env = pure false := by rfl) :
    DSs X env (.Expr (.Call (.Attribute (.Name x p) "append" apos) [e] [] cpos) pos :: rest) P := dss_of (ps_expr (pe_bm PySem.F.plainAttrs_list PySem.F.slot_list_append PySem.F.type_list_append mt_append (pe_var hN hv hd hcd) (pa_cons pw_E pa_nil hst) hbase hfew hline hst hplain) hsw) fun H0 ps σ H E l De ok => by
  obtain ⟨q, xs, h3, h4, h5, h6⟩ := E.ownLst hs ho
  refine ⟨_, h3, .inl ⟨rfl, xs, SqL.of h5⟩, h H0 ps σ H E _ fun v H1 s1 r1 => ?_⟩
  have E1 := E.mono s1
  refine ⟨q, xs, v, rfl, rfl, s1 _ _ h5, szlt (by rw [RA.length h6]; exact hl), ⟨fun pins s I => ?_⟩⟩
  have hq : q ∈ ps := List.mem_of_getElem? h4
  have ra : RA X.K false (er ps (cl H0 H1)) (xs ++ [v]) (ds ++ [d]) := RA.snoc (RA.mono (ec_mono s1) id h6) (RM.imm E1 hi' r1)
  exact (h2 H0 ps σ _ (E1.pokeOwn h4 (o := .lst (xs ++ [v])) trivial ⟨xs ++ [v], upd_same, by rw [ec_poke hq]; exact ra⟩) (by simp [l]) De (ok.step ((Fr.of_same s1).trans (Fr.poke hq)))).run pins s I
theorem dss_dput (i : Nat) {j : Nat} {x : Str} {p pos' : Pos} {k : Int} {kvs : List (Int × D)} (hu : X.A.units + 1 < cLine) (h : DM X env m e d) (hi' : DW.imm d = true) (hk : DM X env mb b (.int k)) (h2 : DSs X (env.1, env.2.set j (.dic (putD kvs k d))) rest P) (hl : kvs.length < 100000) (hs : env.1[i]? = some (.own j) := by rfl) (ho : env.2[j]? = some (.dic kvs) := by rfl) (hN : X.N[i]? = some x := by rfl) (hv : Vis X.env.scope x := by first | exact Or.inl rfl | exact Or.inr (Or.inl rfl) | exact Or.inr (Or.inr rfl)) (hd : (x == ("__debug__" : Str)) = false := by decide)
    (hcd : (x == ("__classdict__" : Str)) = false := by decide) (hsw : swapsWith e (some (.Subscript (.Name x p) b pos')) pos.line X.env = pure false := by rfl) :
    DSs X env (.Assign [.Subscript (.Name x p) b pos'] e pos :: rest) P := dss_of (ps_dput hu (pe_var hN hv hd hcd) pw_E pw_E hsw) fun H0 ps σ H E l De ok => by
  refine h H0 ps σ H E _ fun v H1 s1 r1 => ?_
  have E1 := E.mono s1
  obtain ⟨q, xs, h3, h4, h5, h6⟩ := E1.ownDic hs ho
  refine ⟨_, h3, hk H0 ps σ H1 E1 _ fun w H2 s2 r2 => ?_⟩
  have E2 := E1.mono s2
  have hq : q ∈ ps := List.mem_of_getElem? h4
  obtain rfl := r2.intI
  refine ⟨q, _, rfl, DPut.k (k := .inl k) (s2 _ _ h5) (szlt (by rw [RK.length h6]; exact hl)), ⟨fun pins s I => ?_⟩⟩
  have rk : RK X.K false (er ps (cl H0 H2)) (putK xs (.inl k) v) (putD kvs k d) := RK.put (RM.imm E2 hi' (RM.mono s2 r1)) (RK.mono (ec_mono s2) id h6)
  exact (h2 H0 ps σ _ (E2.pokeOwn h4 (o := .dK (putK xs (.inl k) v)) trivial ⟨_, upd_same, by rw [ec_poke hq]; exact rk⟩) (by simp [l]) De (ok.step ((Fr.of_same (s1.trans s2)).trans (Fr.poke hq)))).run pins s I
theorem dm_get {f : Expr} {x1 : Pos} {apos cpos : Pos} {mc : Md} {k : Int} {kvs : List (Int × D)} (hu : X.A.units + 1 < cLine) (ha : DM X env ma a (.dic kvs)) (hk : DM X env mb b (.int k)) (hf : DM X env mc f da) (hi' : DW.imm ((lookD kvs k).getD da) = true) (M : M2 X a "get" apos b f cpos := by exact ⟨rfl, rfl, rfl, rfl⟩) :
    DM X env .cl (.Call (.Attribute a "get" apos) [b, f] [] cpos) ((lookD kvs k).getD da) := fun H0 ps σ H E Q q =>
  (pe_dget2 hu pw_E pw_E pw_E M).w (ha H0 ps σ H E _ fun v H1 s1 r1 => by
    obtain ⟨p, xs, rfl, hp, rk⟩ := R.dicI (RM.any (E.same.trans s1) r1)
    refine ⟨p, rfl, .inl ⟨xs, .inl hp⟩, hk H0 ps σ H1 (E.mono s1) _ fun w H2 s2 r2 => hf H0 ps σ H2 ((E.mono s1).mono s2) _ fun u H3 s3 r3 => ?_⟩
    obtain rfl := r2.intI
    have E3 := ((E.mono s1).mono s2).mono s3
    refine ⟨_, DGet.k (k := .inl k) ((s2.trans s3) _ _ hp), q _ H3 ((s1.trans s2).trans s3) (E3.imm (b := true) hi' ?_)⟩
    · rcases (RK.mono (s2.trans s3) id rk).look (k := k) with ⟨e1, e2⟩ | ⟨v', d', e1, e2, h⟩
      · rw [e1, e2]; exact RM.any E3.same r3
      · rw [e1, e2]; exact h)
theorem dm_dix {k : Int} {kvs : List (Int × D)} (hu : X.A.units + 1 < cLine) (ha : DM X env ma a (.dic kvs)) (hk : DM X env mb b (.int k)) (h : lookD kvs k = some d) (hi' : DW.imm d = true) (hs : NoSl b := by intro _ _; rfl) : DM X env .cl (.Subscript a b pos) d := fun H0 ps σ H E Q q =>
  (pe_dget hu pw_E pw_E hs).w (ha H0 ps σ H E _ fun v H1 s1 r1 => hk H0 ps σ H1 (E.mono s1) _ fun w H2 s2 r2 => by
    obtain ⟨p, xs, rfl, hp, rk⟩ := R.dicI (RM.any ((E.mono s1).mono s2).same (RM.mono s2 r1))
    obtain rfl := r2.intI
    rcases rk.look (k := k) with ⟨e1, e2⟩ | ⟨v', d', e1, e2, h'⟩
    · rw [h] at e2; cases e2
    · obtain rfl : d = d' := Option.some.inj (h.symm.trans e2)
      exact ⟨p, v', rfl, e1 ▸ DGet.k (k := .inl k) hp, q _ H2 (s1.trans s2) (((E.mono s1).mono s2).imm hi' h')⟩)
theorem dt_din {k : Int} {kvs : List (Int × D)} (hu : X.A.units + 1 < cLine) (hk : DM X env mb b (.int k)) (ha : DM X env ma a (.dic kvs)) (hm : behindInMarks .In a = false := by rfl) : DT X env (.Compare b [.In] [a] pos) (lookD kvs k).isSome := fun H0 ps σ H E Q q =>
  (pt_cmp (pc_din hu pw_E pw_E) hm).w (hk H0 ps σ H E _ fun w H1 s1 r2 => ha H0 ps σ H1 (E.mono s1) _ fun v H2 s2 r1 => by
    obtain ⟨p, xs, rfl, hp, rk⟩ := R.dicI (RM.any ((E.mono s1).mono s2).same r1)
    obtain rfl := r2.intI
    refine ⟨p, _, rfl, DGet.k (k := .inl k) hp, (lookD kvs k).isSome, ?_, q H2 (s1.trans s2)⟩
    rcases rk.look (k := k) with ⟨e1, e2⟩ | ⟨v', d', e1, e2, h'⟩ <;> rw [e1, e2] <;> rfl)
end
end DW
set_option Elab.async false
set_option linter.all false
set_option maxRecDepth 100000
set_option maxHeartbeats 2000000
namespace DW
open PySem PySem.Spec L2
section
variable {X : Cx} {env : Env} {m ma mb : Md} {a b e : Expr} {da db d : D} {pos : Pos} {K : PySem.W.Frag} {ds : List D} {H0 H : Hp} {ps : List Addr} {σ : L2.St} {v : V} {P : Post} {rest : List Stmt}
theorem dss_setLc {α : Type} (i : Nat) {y : Str} {py : Pos} {elt tg iter : Expr} {ifs : List Expr} {scope : Scope} {own : List (Str × Nat)} {mi : Md} {enc : α → D} {as : List α} {J : List Nat} {envs : α → Env} {t : α → Bool} {f : α → D} {spos : Pos}
    (hc : X.calm = true) (hN : X.N.Nodup) (ok : blkC X.N X.env.scope scope own = true) (hi : DI X env mi tg iter (as.map enc)) (hJ : ∀ j ∈ J, j ∈ own.map (·.2))
    (hg : ∀ a ∈ as, ∀ s H C c fp, DG (blkX X scope s H C c fp) (wipeE env (own.map (·.2))) mi tg (enc a) (envs a) J)
    (ht : ∀ a ∈ as, ∀ s H C c fp, DTs (blkX X scope s H C c fp) (envs a) ifs (t a))
    (he : ∀ a ∈ as, t a = true → ∀ s H C c fp, DM (blkX X scope s H C c fp) (envs a) .cl elt (f a)) (hl : as.length ≤ 90000)
    (h2 : DSs X (env.1.set i (.val (.lst ((as.filter t).map f))), env.2) rest P) (hy : X.N[i]? = some y := by rfl) (hyl : X.env.scope.names.lookup y = some .local := by rfl) (hsw : swapsWith (.ListComp elt [⟨tg, iter, ifs, 0⟩] scope pos) (some (.Name y py)) spos.line X.env = pure true := by exact sw_true rfl rfl rfl (by decide +kernel))
    (hs : ∀ x, foldedSetIterable iter X.env x = pure x := by intro _; rfl) :
    DSs X env (.Assign [.Name y py] (.ListComp elt [⟨tg, iter, ifs, 0⟩] scope pos) spos :: rest) P :=
  dss_of (ps_setLc (g := wGb X scope tg) (tt := wTsb X scope ifs) (te := wEb X scope elt) hc hN hy hyl hsw pw_I (blkOk_by ok) (fun s H C c fp => ⟨fun pins s' σ H v u Q I r h => (h _ _ _ _ _).run pins s' u I r⟩) (fun s H C c fp => ⟨fun pins s' σ H Q I h => (h _ _ _ _ _).run pins s' I⟩)
    (fun s H C c fp => ⟨fun pins s' σ H Q I h => (h _ _ _ _ _).run pins s' I⟩) hs) fun H0 ps σ H E l De okk => by
  refine lc_read hi hJ hg ht he hl E fun p xs H2 sm hp h3 ra hn h0 => ⟨fun pins s I => ?_⟩
  have hlen := len_set I hy
  exact (h2 H0 ps _ H2 ((E.mono sm).put hlen ⟨_, rfl, lst_cl hn h0 h3 ra⟩) l De (okk.step (Fr.of_same sm))).run pins s I
theorem dss_setLcM {α : Type} (i : Nat) {y : Str} {py : Pos} {elt tg iter : Expr} {scope : Scope} {own : List (Str × Nat)} {mi : Md} {enc : α → D} {as : List α} {J : List Nat} {envs : α → Env} {f : α → D} {spos : Pos}
    (hc : X.calm = true) (hN : X.N.Nodup) (ok : blkC X.N X.env.scope scope own = true) (hi : DI X env mi tg iter (as.map enc)) (hJ : ∀ j ∈ J, j ∈ own.map (·.2))
    (hg : ∀ a ∈ as, ∀ s H C c fp, DG (blkX X scope s H C c fp) (wipeE env (own.map (·.2))) mi tg (enc a) (envs a) J)
    (he : ∀ a ∈ as, ∀ s H C c fp, DM (blkX X scope s H C c fp) (envs a) .cl elt (f a)) (hl : as.length ≤ 90000)
    (h2 : DSs X (env.1.set i (.val (.lst (as.map f))), env.2) rest P) (hy : X.N[i]? = some y := by rfl) (hyl : X.env.scope.names.lookup y = some .local := by rfl) (hsw : swapsWith (.ListComp elt [⟨tg, iter, [], 0⟩] scope pos) (some (.Name y py)) spos.line X.env = pure true := by exact sw_true rfl rfl rfl (by decide +kernel))
    (hs : ∀ x, foldedSetIterable iter X.env x = pure x := by intro _; rfl) :
    DSs X env (.Assign [.Name y py] (.ListComp elt [⟨tg, iter, [], 0⟩] scope pos) spos :: rest) P :=
  dss_setLc (t := fun _ => true) i hc hN ok hi hJ hg (fun a ha s H C c fp => dts_nil) (fun a ha _ => he a ha) hl (by rw [List.filter_eq_self.mpr (fun _ _ => rfl)]; exact h2) hy hyl hsw hs
theorem dss_asg {tg : Expr} {env' : Env} {J : List Nat} (h : DM X env m e d) (hg : DG X env m tg d env' J) (h2 : DSs X env' rest P) (hl : env'.2.length = env.2.length := by rfl) (hs : swapsWithSole [tg] e pos.line X.env = pure false := by rfl) (hw : swappedStores [tg] e X.env = pure none := by rfl)
    (h1 : (assignEach [tg] X.env).map (·.2) = [assign tg X.env] := by rfl) : DSs X env (.Assign [tg] e pos :: rest) P := dss_of (ps_asg pw_E pw_G hs hw h1) fun H0 ps σ H E l De ok =>
  h H0 ps σ H E _ fun v H1 s1 r1 => hg H0 ps σ H1 v (E.mono s1) r1 _ fun σ' E' _ => h2 H0 ps σ' H1 E' (by rw [hl]; exact l) De (ok.step (Fr.of_same s1))
theorem dss_pair (i j : Nat) {x y : Str} {px py pt : Pos} {kt k2 : Nat} {pt2 : Pos} (hc : X.calm = true) (hN : X.N.Nodup) (ha : DM X env ma a da) (hb : DM X env mb b db) (h2 : DSs X ((env.1.set i (slotOf ma da)).set j (slotOf mb db), env.2) rest P)
    (hi : X.N[i]? = some x := by rfl) (hj : X.N[j]? = some y := by rfl) (hij : i ≠ j := by decide) (hx : X.env.scope.names.lookup x = some .local := by rfl) (hy : X.env.scope.names.lookup y = some .local := by rfl)
    (hw : swappedStores [.Tuple [.Name x px, .Name y py] kt pt] (.Tuple [a, b] k2 pt2) X.env = pure (some [x, y]) := by rfl)
    (hs : swapsWithSole [.Tuple [.Name x px, .Name y py] kt pt] (.Tuple [a, b] k2 pt2) pos.line X.env = pure false := by rfl) (hst : starEach (a :: [b]) X.env = (false, eval a X.env) :: starEach [b] X.env := by rfl) (hst2 : starEach (b :: []) X.env = (false, eval b X.env) :: starEach [] X.env := by rfl) :
    DSs X env (.Assign [.Tuple [.Name x px, .Name y py] kt pt] (.Tuple [a, b] k2 pt2) pos :: rest) P := dss_of (ps_par hc hN hi hj hij hx hy (pa_cons pw_E (pa_cons pw_E pa_nil hst2) hst) hw hs) fun H0 ps σ H E l De ok =>
  ha H0 ps σ H E _ fun v H1 s1 r1 => hb H0 ps σ H1 (E.mono s1) _ fun w H2 s2 r2 => ⟨v, w, rfl, ⟨fun pins s I => by
    have z := I.len
    rw [List.length_set, List.length_set] at z
    have li : i < σ.length := by rw [z]; exact (List.getElem?_eq_some_iff.mp hi).1
    have lj : j < σ.length := by rw [z]; exact (List.getElem?_eq_some_iff.mp hj).1
    have E2 := (E.mono s1).mono s2
    exact (h2 H0 ps _ H2 ((E2.put li (slotOf_ok (RM.mono s2 r1))).put (by rw [List.length_set]; exact lj) (slotOf_ok r2)) l De (ok.step (Fr.of_same (s1.trans s2)))).run pins s I⟩⟩
theorem dss_aug (i : Nat) {x : Str} {p : Pos} {k n : Int} (hN : X.N.Nodup) (h : DM X env m e (.int k)) (h2 : DSs X (env.1.set i (.val (.int (n + k))), env.2) rest P) (hs : env.1[i]? = some (.val (.int n)) := by rfl) (hi : X.N[i]? = some x := by rfl) (hx : Loc X.env.scope x := by first | exact Or.inl rfl | exact Or.inr rfl)
    (hf : X.fn x = true ∨ X.env.scope.names.lookup x = some .local := by first | exact .inl rfl | exact .inr rfl) : DSs X env (.AugAssign (.Name x p) .Add e pos :: rest) P := dss_of (ps_aug hN hi hx pw_E ip_add hf) fun H0 ps σ H E l De ok => by
  obtain ⟨v, h3, h4⟩ := E.sl i _ hs
  obtain rfl := R.intI h4
  refine ⟨_, h3, h H0 ps σ H E _ fun w H1 s1 r1 => ⟨n, k, rfl, r1.intI, ⟨fun pins s I => ?_⟩⟩⟩
  exact (h2 H0 ps _ H1 ((E.mono s1).put (len_set I hi) ⟨_, rfl, R.int _⟩) l De (ok.step (Fr.of_same s1))).run pins s I
theorem dss_if {c : Expr} {A B : List Stmt} {k : Bool} (h : DT X env c k) (h1 : k = true → DSs X env A { P with nx := fun env' => DSs X env' rest P }) (h2 : k = false → DSs X env B { P with nx := fun env' => DSs X env' rest P }) : DSs X env (.If c A B pos :: rest) P := dss_of (ps_if pw_T pw_Ss pw_Ss) fun H0 ps σ H E l De ok =>
  h H0 ps σ H E _ fun H1 s1 => by
    have E1 := E.mono s1
    have ok1 := ok.step (Fr.of_same s1)
    have ok2 : EndsOk X.K H0 ps H1 { P with nx := fun env' => DSs X env' rest P } { De with nx := wSs X rest De } := ⟨fun e p s h' q E' l' g => q H0 p s h' E' l' De (ok1.step g), ok1.rt, ok1.bk, ok1.ct⟩
    cases k with
    | true =>
      rw [if_pos rfl]
      exact h1 rfl H0 ps σ H1 E1 l _ ok2
    | false =>
      rw [if_neg Bool.false_ne_true]
      exact h2 rfl H0 ps σ H1 E1 l _ ok2
theorem dss_if1 {c : Expr} {A : List Stmt} {k : Bool} (h : DT X env c k) (h1 : k = true → DSs X env A { P with nx := fun env' => DSs X env' rest P }) (h2 : k = false → DSs X env rest P) : DSs X env (.If c A [] pos :: rest) P := dss_if h h1 fun z => dss_nil (h2 z)
theorem dss_ret (h : DM X env .cl e d) (hd : P.rt d) : DSs X env (.Return (some e) pos :: rest) P := dss_of (ps_ret pw_E) fun H0 ps σ H E l De ok =>
  h H0 ps σ H E _ fun v H1 s1 r1 => ok.rt d v H1 hd (E.same.trans s1) (R.mono (er_le _ _) id r1)
theorem dss_pass (h : DSs X env rest P) : DSs X env (.Pass pos :: rest) P := dss_of ps_pass fun H0 ps σ H E l De ok => h H0 ps σ H E l De ok
def frzS (ow : List D) : Slot → Slot
  | .own j => match ow[j]? with
    | some d => .val d
    | none => .un
  | .fld C f j => match ow[j]? with
    | some d => .val (.obj C f d)
    | none => .un
  | s => s
def frzE (env : Env) : Env := (env.1.map (frzS env.2), [])
theorem EnvR.freeze (E : EnvR K H0 ps env σ H) : EnvR K H0 [] (frzE env) σ H := by
  have le : Same (er ps (cl H0 H)) (er [] (cl H0 H)) := er_sub fun p hp => nomatch hp
  refine ⟨E.same, fun p hp => (nomatch hp), List.nodup_nil, fun j d h => ?_, fun i s h => ?_⟩
  · have h' : ([] : List D)[j]? = some d := h
    cases j <;> cases h'
  · have h' : (env.1.map (frzS env.2))[i]? = some s := h
    rw [List.getElem?_map] at h'
    cases z : env.1[i]? with
    | none => rw [z] at h'; cases h'
    | some s0 =>
      rw [z] at h'
      obtain rfl : frzS env.2 s0 = s := Option.some.inj h'
      have q := E.sl i _ z
      cases s0 with
      | un => trivial
      | val d => obtain ⟨v, h1, h2⟩ := q; exact ⟨v, h1, R.mono le id h2⟩
      | arg d => exact q
      | own j =>
        obtain ⟨p, h1, h2⟩ := q
        cases y : env.2[j]? with
        | none =>
          have e : frzS env.2 (.own j) = .un := by unfold frzS; simp only [y]
          rw [e]
          trivial
        | some d =>
          have e : frzS env.2 (.own j) = .val d := by unfold frzS; simp only [y]
          rw [e]
          obtain ⟨p', h3, h4⟩ := E.ow j d y
          obtain rfl : p' = p := Option.some.inj (h3.symm.trans h2)
          have h0 := (E.mu p' (List.mem_of_getElem? h3)).1
          refine ⟨_, h1, ?_⟩
          rw [er_nil] at le ⊢
          cases d <;> try exact h4.elim
          · obtain ⟨vs, z1, z2⟩ := h4
            exact .lst (cl_new h0 z1) (RA.mono le id z2)
          · obtain ⟨vs, z1, z2⟩ := h4
            exact .dic (cl_new h0 z1) (RK.mono le id z2)
      | fld C f j =>
        obtain ⟨p, dx, q', h1, hp0, hp, h2, _⟩ := q
        cases y : env.2[j]? with
        | none =>
          have e : frzS env.2 (.fld C f j) = .un := by unfold frzS; simp only [y]
          rw [e]
          trivial
        | some d =>
          have e : frzS env.2 (.fld C f j) = .val (.obj C f d) := by unfold frzS; simp only [y]
          rw [e]
          obtain ⟨p', h3, h4⟩ := E.ow j d y
          obtain rfl : p' = q' := Option.some.inj (h3.symm.trans h2)
          have h0 := (E.mu p' (List.mem_of_getElem? h3)).1
          refine ⟨_, h1, ?_⟩
          rw [er_nil] at le ⊢
          refine .obj (cl_new hp0 hp) ?_
          cases d <;> try exact h4.elim
          · obtain ⟨vs, z1, z2⟩ := h4
            exact .lst (cl_new h0 z1) (RA.mono le id z2)
          · obtain ⟨vs, z1, z2⟩ := h4
            exact .dic (cl_new h0 z1) (RK.mono le id z2)
theorem dss_freeze {sts : List Stmt} (h : DSs X (frzE env) sts P) : DSs X env sts P := fun H0 ps σ H E l De ok => h H0 [] σ H E.freeze rfl De (ok.step fun a o _ q => ⟨by simp, q⟩)
theorem EnvR.weak {env' : Env} (E : EnvR K H0 ps env σ H) (h2 : env'.2 = env.2) (h : ∀ (i : Nat) (s : Slot), env'.1[i]? = some s → s = .un ∨ env.1[i]? = some s) : EnvR K H0 ps env' σ H :=
  ⟨E.same, E.mu, E.nd, fun j d q => E.ow j d (h2 ▸ q), fun i s q => by
    rcases h i s q with rfl | z
    · trivial
    · exact E.sl i s z⟩
theorem dss_for {iter tg : Expr} {body : List Stmt} (Pv : Nat → Env → Prop) (hp : PassesOwn (model X.prog X.w) X.A X.env X.xe) (hc : X.calm = true) (hi : DI X env m tg iter ds) (h0 : Pv 0 env)
    (hs : ∀ (i : Nat) (d : D) (env' : Env), ds[i]? = some d → Pv i env' → ∃ env1 J, DG X env' m tg d env1 J ∧ env1.2.length = env'.2.length ∧ DSs X env1 body ⟨Pv (i + 1), P.rt, fun env2 => DSs X env2 rest P, Pv (i + 1)⟩) (hd : ∀ env', Pv ds.length env' → DSs X env' rest P)
    (hfs : ∀ x, foldedSetIterable iter X.env x = pure x := by intro _; rfl) : DSs X env (.For tg iter body [] pos :: rest) P := dss_of (ps_for hp hc pw_I pw_G pw_Ss hfs) fun H0 ps σ H E l De ok => by
  refine hi H0 ps σ H E _ fun J H1 s1 it => ?_
  refine ⟨fun i mm σ2 H2 => i + mm = ds.length ∧ ∃ env' ps', Pv i env' ∧ EnvR X.K H0 ps' env' σ2 H2 ∧ ps'.length = env'.2.length ∧ Fr ps H1 ps' H2, ⟨ds.length, by omega, env, ps, h0, E.mono s1, l, Fr.refl _ _⟩, ?_⟩
  rintro i mm σ2 H2 ⟨him, env', ps', pv', E2, l2, fr⟩
  have ok2 := (ok.step (Fr.of_same s1)).step fr
  by_cases hi2 : i < ds.length
  · have hg : ds[i]? = some ds[i] := List.getElem?_eq_getElem hi2
    obtain ⟨env1, J', hG, hlen, hB⟩ := hs i _ env' hg pv'
    refine .inr ⟨it.go i ps' H2 _ E2.same fr hg, fun σ3 H3 => i + 1 + (mm - 1) = ds.length ∧ ∃ env' ps', Pv (i + 1) env' ∧ EnvR X.K H0 ps' env' σ3 H3 ∧ ps'.length = env'.2.length ∧ Fr ps H1 ps' H3, fun σ3 H3 h => ⟨mm - 1, by omega, h⟩, fun x H3 hy => ?_⟩
    obtain ⟨s3, rx⟩ := it.yld i ps' H2 _ x H3 E2.same fr (fun p hp => by obtain ⟨_, o, h2, _⟩ := E2.mu p hp; exact ⟨o, h2⟩) hg hy
    refine hG H0 ps' σ2 H3 x (E2.mono s3) rx _ fun σ4 E4 _ => ?_
    have ok3 := ok2.step (Fr.of_same s3)
    refine hB H0 ps' σ4 H3 E4 (by rw [hlen]; exact l2) _ ⟨fun e p s h' q E' l' g => ⟨by omega, e, p, q, E', l', (fr.trans (Fr.of_same s3)).trans g⟩, ok3.rt, fun e p s h' q E' l' g => q H0 p s h' E' l' De (ok3.step g), fun e p s h' q E' l' g => ⟨by omega, e, p, q, E', l', (fr.trans (Fr.of_same s3)).trans g⟩⟩
  · have e : i = ds.length := by omega
    subst e
    exact .inl ⟨it.stop _ ps' H2 E2.same fr (Nat.le_refl _), hd env' pv' H0 ps' σ2 H2 E2 l2 De ok2⟩
theorem dss_while {c : Expr} {body : List Stmt} (Pv : Nat → Env → Prop) (hp : PassesOwn (model X.prog X.w) X.A X.env X.xe) {n : Nat} (h0 : Pv n env)
    (hs : ∀ (n : Nat) (env' : Env), Pv n env' → ∃ k, DT X env' c k ∧ (k = true → DSs X env' body ⟨fun e => ∃ n', n' < n ∧ Pv n' e, P.rt, fun env2 => DSs X env2 rest P, fun e => ∃ n', n' < n ∧ Pv n' e⟩) ∧ (k = false → DSs X env' rest P)) : DSs X env (.While c body [] pos :: rest) P := dss_of (ps_while hp pw_T pw_Ss) fun H0 ps σ H E l De ok => by
  refine ⟨fun n σ2 H2 => ∃ env' ps', Pv n env' ∧ EnvR X.K H0 ps' env' σ2 H2 ∧ ps'.length = env'.2.length ∧ Fr ps H ps' H2, ⟨n, env, ps, h0, E, l, Fr.refl _ _⟩, ?_⟩
  rintro n σ2 H2 ⟨env', ps', pv', E2, l2, fr⟩
  obtain ⟨k, hT, ht, hf⟩ := hs n env' pv'
  have ok2 := ok.step fr
  refine hT H0 ps' σ2 H2 E2 _ fun H3 s3 => ?_
  have ok3 := ok2.step (Fr.of_same s3)
  cases k with
  | false =>
    rw [if_neg Bool.false_ne_true]
    exact hf rfl H0 ps' σ2 H3 (E2.mono s3) l2 De ok3
  | true =>
    rw [if_pos rfl]
    refine ⟨fun σ3 H4 => ∃ n', n' < n ∧ ∃ env' ps', Pv n' env' ∧ EnvR X.K H0 ps' env' σ3 H4 ∧ ps'.length = env'.2.length ∧ Fr ps H ps' H4, fun σ' H' ⟨n', h1, h2⟩ => ⟨n', h1, h2⟩, ?_⟩
    refine ht rfl H0 ps' σ2 H3 (E2.mono s3) l2 _ ⟨fun e p s h' ⟨n', h1, q⟩ E' l' g => ⟨n', h1, e, p, q, E', l', (fr.trans (Fr.of_same s3)).trans g⟩, ok3.rt, fun e p s h' q E' l' g => q H0 p s h' E' l' De (ok3.step g), fun e p s h' ⟨n', h1, q⟩ E' l' g => ⟨n', h1, e, p, q, E', l', (fr.trans (Fr.of_same s3)).trans g⟩⟩
end
def startE (N : List Str) (ds : List D) : List Slot := ds.map Slot.arg ++ List.replicate (N.length - ds.length) .un
theorem env_start {K : PySem.W.Frag} {H : Hp} {N : List Str} {vs : List V} {ds : List D} (r : RA K true H vs ds) : EnvR K H [] (startE N ds, []) (L2.start N vs) H := by
  refine ⟨Same.refl H, fun p hp => (nomatch hp), List.nodup_nil, fun j d h => ?_, fun i s h => ?_⟩
  · have h' : ([] : List D)[j]? = some d := h
    cases j <;> cases h'
  · have h' : (ds.map Slot.arg ++ List.replicate (N.length - ds.length) .un)[i]? = some s := h
    unfold L2.start
    rw [List.getElem?_append] at h' ⊢
    rw [List.length_map] at h' ⊢
    have hl := RA.length r
    by_cases hi : i < ds.length
    · rw [if_pos hi] at h'
      rw [if_pos (by rw [hl]; exact hi)]
      rw [List.getElem?_map, List.getElem?_eq_getElem hi] at h'
      obtain rfl := Option.some.inj h'
      obtain ⟨v, h1, h2⟩ := RA.get r (List.getElem?_eq_getElem hi)
      refine ⟨v, ?_, h2⟩
      rw [List.getElem?_map, h1]; rfl
    · rw [if_neg hi] at h'
      have : s = .un := by
        have := List.mem_of_getElem? h'
        exact (List.mem_replicate.mp this).2
      subst this
      trivial
theorem fn_ok {P : Program} {w : World} {K : PySem.W.Frag} {mg : Str → Option Value} {base : Heap} {x qual : Str} {st : Stmt} {f : Addr} {fd : FuncData} {N qs : List Str} {k : Nat} {Rel : List D → D → Prop} (F : Fun K x qual st f fd) (S : FnScope N qs (defScope st)) (hlen : ∀ ds d, Rel ds d → ds.length = qs.length)
    (body : ∀ (ds : List D) (d : D), Rel ds d → ∀ (cdv : Value) (A : Around) (outer : List PySem.Env) (s : Shared) (H : Hp) (E : XK), Room k (A.deeper (PyProof.Rows.envOfC qual (defScope st) s.heap.objs.size f cdv)) →
      DSs (cxOf CX0 P w K mg base N qual (defScope st) f cdv A outer s H E).nox (startE N ds, []) (defBody st) ⟨fun _ => d = .non, fun d' => d' = d, fun _ => False, fun _ => False⟩) :
    FnOk P w K mg base CX0 (k + 1) f fd qs (PSp K Rel) := by
  refine F.ok S (fun vs H Q E h => ?_) (fun cdv A outer s H vs Q E hr h => ?_)
  · obtain ⟨ds, d, h1, h2, _⟩ := h
    rw [RA.length h1]
    exact hlen ds d h2
  · obtain ⟨ds, d, h1, h2, h3⟩ := h
    refine ⟨_, pw_Ss, ?_⟩
    refine body ds d h2 cdv A outer s H E hr H [] _ H (env_start h1) rfl _ ⟨fun env' ps' σ' H' e E' _ _ => ?_, fun d' v H' e sm r => ?_, fun _ _ _ _ e => e.elim, fun _ _ _ _ e => e.elim⟩
    · subst e
      exact h3 .non H' E'.same R.non
    · subst e
      exact h3 v H' sm r
end DW
set_option Elab.async false
set_option linter.all false
set_option maxRecDepth 100000
set_option maxHeartbeats 2000000
namespace DW
open PySem PySem.Spec L2
def pD (p : Int × Int) : D := .tup [.int p.1, .int p.2]
abbrev iL (ns : List Int) : D := .lst (ns.map D.int)
abbrev bL (ns : List Bool) : D := .lst (ns.map D.bl)
abbrev pL (ps : List (Int × Int)) : D := .lst (ps.map pD)
abbrev iLL (ns : List (List Int)) : D := .lst (ns.map iL)
abbrev pLL (ns : List (List (Int × Int))) : D := .lst (ns.map pL)
theorem imm_int {i : Int} : imm (.int i) = true := rfl
theorem imm_pD {p : Int × Int} : imm (pD p) = true := rfl
theorem immA_map {α : Type} {enc : α → D} (h : ∀ a, imm (enc a) = true) {as : List α} : immA (as.map enc) = true := by
  rw [immA_iff]
  intro d hd
  obtain ⟨a, _, rfl⟩ := List.mem_map.mp hd
  exact h a
theorem immI {ns : List Int} : immA (ns.map D.int) = true := immA_map fun _ => rfl
theorem immP {ns : List (Int × Int)} : immA (ns.map pD) = true := immA_map fun _ => rfl
theorem immB {ns : List Bool} : immA (ns.map D.bl) = true := immA_map fun _ => rfl
theorem cutL_map {α β : Type} (g : α → β) (xs : List α) (lo hi : Option Int) : cutL (xs.map g) lo hi = (cutL xs lo hi).map g := by
  unfold cutL
  rw [List.length_map, List.map_take, List.map_drop]
section
variable {X : Cx} {env : Env} {m ma mb : Md} {a b e : Expr} {da db d : D} {pos : Pos} {K : PySem.W.Frag} {ds : List D} {H0 H : Hp} {ps : List Addr} {σ : L2.St} {v : V} {P : Post} {rest : List Stmt}
theorem dm_ite {c : Expr} {k : Bool} (h : DT X env c k) (h1 : k = true → DM X env m a da) (h2 : k = false → DM X env m b db) : DM X env m (.IfExp c a b pos) (if k then da else db) :=
  dm_if h (fun z => by subst z; exact h1 rfl) (fun z => by subst z; exact h2 rfl)
theorem dm_sliceT {α : Type} {enc : α → D} {as : List α} {lo hi : Option Expr} {l u : Option Int} {p2 : Pos} (ha : DM X env ma a (.lst (as.map enc))) (hi' : ma = .cl ∨ immA (as.map enc) = true) (hl : DO X env lo l) (hu : DO X env hi u) : DM X env .cl (.Subscript a (.Slice lo hi none p2) pos) (.lst ((cutL as l u).map enc)) := by
  rw [← cutL_map]
  exact dm_slice ha hi' hl hu
theorem dm_revT {α : Type} {enc : α → D} {as : List α} {k : Nat} {p1 p2 p3 : Pos} (ha : DM X env ma e (.lst (as.map enc))) (hi' : ma = .cl ∨ immA (as.map enc) = true) : DM X env .cl (.Subscript e (.Slice none none (some (.UnaryOp .USub (.Constant (.int 1) k p1) p2)) p3) pos) (.lst (as.reverse.map enc)) := by
  rw [List.map_reverse]
  exact dm_rev ha hi'
theorem dm_catT {α : Type} {enc : α → D} {as bs : List α} (ha : DM X env .cl a (.lst (as.map enc))) (hb : DM X env .cl b (.lst (bs.map enc))) (hl : as.length + bs.length ≤ 100000) : DM X env .cl (.BinOp a .Add b pos) (.lst ((as ++ bs).map enc)) := by
  rw [List.map_append]
  exact dm_cat ha hb (by rw [List.length_map, List.length_map]; exact hl)
theorem dm_lenT' {α : Type} {enc : α → D} {as : List α} {x1 : Pos} (ml : X.mg "len" = none) (h : DM X env m e (.lst (as.map enc))) (hg : Gl X "len" := by rfl) (he : starEach (e :: []) X.env = (false, eval e X.env) :: starEach [] X.env := by rfl) (hpl : (backTo pos (starEach [] X.env)).any (·.1) = false := by rfl) :
    DM X env .cl (.Call (.Name "len" x1) [e] [] pos) (.int as.length) := by
  have z := dm_len (x1 := x1) (pos := pos) ml h hg he hpl
  rw [List.length_map] at z
  exact z
theorem atI_map {α β : Type} {g : α → β} {as : List α} {i : Int} {x : α} (h : atI as i = some x) : atI (as.map g) i = some (g x) := by
  unfold atI at h ⊢
  rw [List.length_map]
  cases z : ixN as.length i with
  | none => rw [z] at h; cases h
  | some j =>
    rw [z] at h
    have h' : as[j]? = some x := h
    show (as.map g)[j]? = some (g x)
    rw [List.getElem?_map, h']; rfl
theorem dm_ixL {α : Type} {enc : α → D} {as : List α} {x : α} {i : Int} (ha : DM X env ma a (.lst (as.map enc))) (hb : DM X env mb b (.int i)) (h : atI as i = some x) (hs : PlainIx b := by intro _ _; rfl) : DM X env ma (.Subscript a b pos) (enc x) := dm_ix ha hb (atI_map h) hs
theorem dm_p0 {p : Int × Int} {j : Nat} {pp : Pos} (h : DM X env m a (pD p)) (hs : PlainIx (.Constant (.int 0) j pp) := by intro _ _; rfl) : DM X env .cl (.Subscript a (.Constant (.int 0) j pp) pos) (.int p.1) := (dm_ixT (ds := [.int p.1, .int p.2]) h dm_int rfl hs).imm
theorem dm_p1 {p : Int × Int} {j : Nat} {pp : Pos} (h : DM X env m a (pD p)) (hs : PlainIx (.Constant (.int 1) j pp) := by intro _ _; rfl) : DM X env .cl (.Subscript a (.Constant (.int 1) j pp) pos) (.int p.2) := (dm_ixT (ds := [.int p.1, .int p.2]) h dm_int rfl hs).imm
theorem dm_pair {i j : Int} {k : Nat} (ha : DM X env ma a (.int i)) (hb : DM X env mb b (.int j)) (hst : starEach (a :: [b]) X.env = (false, eval a X.env) :: starEach [b] X.env := by rfl) (hst2 : starEach (b :: []) X.env = (false, eval b X.env) :: starEach [] X.env := by rfl) : DM X env .cl (.Tuple [a, b] k pos) (pD (i, j)) :=
  dm_tup (da_cons ha.imm (da_cons hb.imm da_nil hst2) hst) (by show 2 ≤ 100000; decide)
theorem di_rng1 {tg : Expr} {p : Pos} {j : Int} (mr : X.mg "range" = none) (h : DM X env m a (.int j)) (h1 : -(2 ^ 62) ≤ j) (h2 : j < 2 ^ 62) (hg : Gl X "range" := by rfl) (hs : starEach [a] X.env = [(false, eval a X.env)] := by rfl) : DI X env .cl tg (.Call (.Name "range" p) [a] [] pos) ((List.range j.toNat).map fun i : Nat => D.int i) := by
  have z := di_range1 (tg := tg) (p := p) (pos := pos) mr h h1 h2 hg hs
  unfold rgD at z
  simpa using z
theorem di_rng2 {tg : Expr} {p : Pos} {i j : Int} (mr : X.mg "range" = none) (ha : DM X env ma a (.int i)) (hb : DM X env mb b (.int j)) (h1 : -(2 ^ 62) ≤ i) (h2 : i < 2 ^ 62) (h3 : -(2 ^ 62) ≤ j) (h4 : j < 2 ^ 62) (hg : Gl X "range" := by rfl) (hs : starEach [a, b] X.env = [(false, eval a X.env), (false, eval b X.env)] := by rfl) (hs2 : starEach [b] X.env = [(false, eval b X.env)] := by rfl) :
    DI X env .cl tg (.Call (.Name "range" p) [a, b] [] pos) ((List.range (j - i).toNat).map fun k : Nat => D.int (i + k)) := di_range2 mr ha hb h1 h2 h3 h4 hg hs hs2
theorem di_rng3 {tg c : Expr} {p : Pos} {i j k : Int} {mc : Md} {n : Nat} (mr : X.mg "range" = none) (ha : DM X env ma a (.int i)) (hb : DM X env mb b (.int j)) (hc : DM X env mc c (.int k)) (hR : RgC i j k n) (hg : Gl X "range" := by rfl) (hs : starEach [a, b, c] X.env = (false, eval a X.env) :: starEach [b, c] X.env := by rfl) (hs2 : starEach [b, c] X.env = (false, eval b X.env) :: starEach [c] X.env := by rfl) (hs3 : starEach [c] X.env = (false, eval c X.env) :: starEach [] X.env := by rfl)
    (hpl : (backTo pos (starEach [b, c] X.env)).any (·.1) = false := by rfl) : DI X env .cl tg (.Call (.Name "range" p) [a, b, c] [] pos) ((List.range n).map fun l : Nat => D.int (i + l * k)) := di_range3 mr ha hb hc hR hg hs hs2 hs3 hpl
theorem di_en {α : Type} {enc : α → D} {as : List α} {tpos : Pos} {elts : List Expr} {kk : Nat} {p : Pos} (hm : m = .cl ∨ immA (as.map enc) = true) (hm2 : m ≠ .any) (me : X.mg "enumerate" = none) (h : DM X env m e (.lst (as.map enc))) (hg : Gl X "enumerate" := by rfl) (hs : starEach [e] X.env = [(false, eval e X.env)] := by rfl) :
    DI X env .cl (.Tuple elts kk tpos) (.Call (.Name "enumerate" p) [e] [] pos) (as.zipIdx.map fun q => D.tup [.int (q.2 : Nat), enc q.1]) := by
  rw [← enD_map]
  exact di_enum hm hm2 me h hg hs
theorem DI.is {tg : Expr} {ds' : List D} (h : DI X env m tg e ds) (q : ds = ds') : DI X env m tg e ds' := q ▸ h
theorem dm_lcT {α β : Type} (enc' : β → D) {elt tg iter : Expr} {ifs : List Expr} {scope : Scope} {own : List (Str × Nat)} {mi : Md} {enc : α → D} {as : List α} {J : List Nat} {envs : α → Env} {t : α → Bool} {g : α → β}
    (hc : X.calm = true) (hN : X.N.Nodup) (ok : blkC X.N X.env.scope scope own = true) (hi : DI X env mi tg iter (as.map enc)) (hg : ∀ a ∈ as, ∀ s H C c fp, DG (blkX X scope s H C c fp) (wipeE env (own.map (·.2))) mi tg (enc a) (envs a) J)
    (ht : ∀ a ∈ as, ∀ s H C c fp, DTs (blkX X scope s H C c fp) (envs a) ifs (t a))
    (he : ∀ a ∈ as, t a = true → ∀ s H C c fp, DM (blkX X scope s H C c fp) (envs a) .cl elt (enc' (g a))) (hl : as.length ≤ 90000) (hJ : ∀ j ∈ J, j ∈ own.map (·.2) := by decide) (hs : ∀ x, foldedSetIterable iter X.env x = pure x := by intro _; rfl) :
    DM X env .cl (.ListComp elt [⟨tg, iter, ifs, 0⟩] scope pos) (.lst (((as.filter t).map g).map enc')) := by
  rw [List.map_map]
  exact dm_lc hc hN ok hi hJ hg ht he hl hs
theorem dm_lcMT {α β : Type} (enc' : β → D) {elt tg iter : Expr} {scope : Scope} {own : List (Str × Nat)} {mi : Md} {enc : α → D} {as : List α} {J : List Nat} {envs : α → Env} {g : α → β}
    (hc : X.calm = true) (hN : X.N.Nodup) (ok : blkC X.N X.env.scope scope own = true) (hi : DI X env mi tg iter (as.map enc)) (hg : ∀ a ∈ as, ∀ s H C c fp, DG (blkX X scope s H C c fp) (wipeE env (own.map (·.2))) mi tg (enc a) (envs a) J)
    (he : ∀ a ∈ as, ∀ s H C c fp, DM (blkX X scope s H C c fp) (envs a) .cl elt (enc' (g a))) (hl : as.length ≤ 90000) (hJ : ∀ j ∈ J, j ∈ own.map (·.2) := by decide) (hs : ∀ x, foldedSetIterable iter X.env x = pure x := by intro _; rfl) :
    DM X env .cl (.ListComp elt [⟨tg, iter, [], 0⟩] scope pos) (.lst ((as.map g).map enc')) := by
  rw [List.map_map]
  exact dm_lcM hc hN ok hi hJ hg he hl hs
theorem dss_setLcT {α β : Type} (enc' : β → D) (i : Nat) {y : Str} {py : Pos} {elt tg iter : Expr} {ifs : List Expr} {scope : Scope} {own : List (Str × Nat)} {mi : Md} {enc : α → D} {as : List α} {J : List Nat} {envs : α → Env} {t : α → Bool} {g : α → β} {spos : Pos}
    (hc : X.calm = true) (hN : X.N.Nodup) (ok : blkC X.N X.env.scope scope own = true) (hi : DI X env mi tg iter (as.map enc)) (hg : ∀ a ∈ as, ∀ s H C c fp, DG (blkX X scope s H C c fp) (wipeE env (own.map (·.2))) mi tg (enc a) (envs a) J)
    (ht : ∀ a ∈ as, ∀ s H C c fp, DTs (blkX X scope s H C c fp) (envs a) ifs (t a))
    (he : ∀ a ∈ as, t a = true → ∀ s H C c fp, DM (blkX X scope s H C c fp) (envs a) .cl elt (enc' (g a))) (hl : as.length ≤ 90000)
    (h2 : DSs X (env.1.set i (.val (.lst (((as.filter t).map g).map enc'))), env.2) rest P) (hJ : ∀ j ∈ J, j ∈ own.map (·.2) := by decide) (hy : X.N[i]? = some y := by rfl) (hyl : X.env.scope.names.lookup y = some .local := by rfl) (hsw : swapsWith (.ListComp elt [⟨tg, iter, ifs, 0⟩] scope pos) (some (.Name y py)) spos.line X.env = pure true := by exact sw_true rfl rfl rfl (by decide +kernel))
    (hs : ∀ x, foldedSetIterable iter X.env x = pure x := by intro _; rfl) :
    DSs X env (.Assign [.Name y py] (.ListComp elt [⟨tg, iter, ifs, 0⟩] scope pos) spos :: rest) P := by
  rw [List.map_map] at h2
  exact dss_setLc i hc hN ok hi hJ hg ht he hl h2 hy hyl hsw hs
theorem dss_setLcMT {α β : Type} (enc' : β → D) (i : Nat) {y : Str} {py : Pos} {elt tg iter : Expr} {scope : Scope} {own : List (Str × Nat)} {mi : Md} {enc : α → D} {as : List α} {J : List Nat} {envs : α → Env} {g : α → β} {spos : Pos}
    (hc : X.calm = true) (hN : X.N.Nodup) (ok : blkC X.N X.env.scope scope own = true) (hi : DI X env mi tg iter (as.map enc)) (hg : ∀ a ∈ as, ∀ s H C c fp, DG (blkX X scope s H C c fp) (wipeE env (own.map (·.2))) mi tg (enc a) (envs a) J)
    (he : ∀ a ∈ as, ∀ s H C c fp, DM (blkX X scope s H C c fp) (envs a) .cl elt (enc' (g a))) (hl : as.length ≤ 90000)
    (h2 : DSs X (env.1.set i (.val (.lst ((as.map g).map enc'))), env.2) rest P) (hJ : ∀ j ∈ J, j ∈ own.map (·.2) := by decide) (hy : X.N[i]? = some y := by rfl) (hyl : X.env.scope.names.lookup y = some .local := by rfl) (hsw : swapsWith (.ListComp elt [⟨tg, iter, [], 0⟩] scope pos) (some (.Name y py)) spos.line X.env = pure true := by exact sw_true rfl rfl rfl (by decide +kernel))
    (hs : ∀ x, foldedSetIterable iter X.env x = pure x := by intro _; rfl) :
    DSs X env (.Assign [.Name y py] (.ListComp elt [⟨tg, iter, [], 0⟩] scope pos) spos :: rest) P := by
  rw [List.map_map] at h2
  exact dss_setLcM i hc hN ok hi hJ hg he hl h2 hy hyl hsw hs
theorem dg_pair (i j : Nat) {x y : Str} {p : Int × Int} {k : Nat} {px py : Pos} (hc : X.calm = true) (hN : X.N.Nodup) (hi : X.N[i]? = some x := by rfl) (hj : X.N[j]? = some y := by rfl) (hx : Loc X.env.scope x := by first | exact Or.inl rfl | exact Or.inr rfl) (hy : Loc X.env.scope y := by first | exact Or.inl rfl | exact Or.inr rfl) (hf : X.fn x = true ∨ X.env.scope.names.lookup x = some .local := by first | exact .inl rfl | exact .inr rfl) (hf2 : X.fn y = true ∨ X.env.scope.names.lookup y = some .local := by first | exact .inl rfl | exact .inr rfl)
    (hn : (assignEach [.Name x px, .Name y py] X.env).length = 2 := by rfl) (hst : (assignEach [.Name x px, .Name y py] X.env).findIdx? (fun x => x.1) = none := by rfl) (hs : (assignEach (.Name x px :: [.Name y py]) X.env).map (·.2) = assign (.Name x px) X.env :: (assignEach [.Name y py] X.env).map (·.2) := by rfl) (hs2 : (assignEach (.Name y py :: []) X.env).map (·.2) = assign (.Name y py) X.env :: (assignEach [] X.env).map (·.2) := by rfl) :
    DG X env m (.Tuple [.Name x px, .Name y py] k pos) (pD p) ((env.1.set i (slotOf m (.int p.1))).set j (slotOf m (.int p.2)), env.2) [i, j] :=
  dg_tup hc (dgs_cons (dg_name i hN hi hx hf) (dgs_cons (dg_name j hN hj hy hf2) dgs_nil hs2) hs) hn hst
end
theorem eqvAll_map {α : Type} {enc : α → D} (he : ∀ a b, PyData.eqv (toPy (enc a)) (toPy (enc b)) = true ↔ a = b) : ∀ {as bs : List α}, PyData.eqvAll (toPys (as.map enc)) (toPys (bs.map enc)) = true ↔ as = bs
  | [], [] => by simp [toPys, PyData.eqvAll]
  | [], _ :: _ => by simp [toPys, PyData.eqvAll]
  | _ :: _, [] => by simp [toPys, PyData.eqvAll]
  | a :: as, b :: bs => by
    rw [List.map_cons, List.map_cons, toPys, toPys, PyData.eqvAll, Bool.and_eq_true, he a b, eqvAll_map he (as := as) (bs := bs)]
    simp
theorem eqv_lst {α : Type} {enc : α → D} (he : ∀ a b, PyData.eqv (toPy (enc a)) (toPy (enc b)) = true ↔ a = b) {as bs : List α} : PyData.eqv (toPy (.lst (as.map enc))) (toPy (.lst (bs.map enc))) = true ↔ as = bs := by
  rw [toPy, toPy, PyData.eqv]
  exact eqvAll_map he
theorem eqv_int (a b : Int) : PyData.eqv (toPy (.int a)) (toPy (.int b)) = true ↔ a = b := by
  rw [toPy, toPy, PyData.eqv]; simp
theorem eqv_bl (a b : Bool) : PyData.eqv (toPy (.bl a)) (toPy (.bl b)) = true ↔ a = b := by
  rw [toPy, toPy, PyData.eqv]; simp
theorem eqv_pD (a b : Int × Int) : PyData.eqv (toPy (pD a)) (toPy (pD b)) = true ↔ a = b := by
  obtain ⟨a1, a2⟩ := a
  obtain ⟨b1, b2⟩ := b
  simp [pD, toPy, toPys, PyData.eqv, PyData.eqvAll]
theorem eqv_iL (a b : List Int) : PyData.eqv (toPy (iL a)) (toPy (iL b)) = true ↔ a = b := eqv_lst eqv_int
theorem eqv_bL (a b : List Bool) : PyData.eqv (toPy (bL a)) (toPy (bL b)) = true ↔ a = b := eqv_lst eqv_bl
theorem eqv_pL (a b : List (Int × Int)) : PyData.eqv (toPy (pL a)) (toPy (pL b)) = true ↔ a = b := eqv_lst eqv_pD
theorem eqv_iLL (a b : List (List Int)) : PyData.eqv (toPy (iLL a)) (toPy (iLL b)) = true ↔ a = b := eqv_lst eqv_iL
theorem eqv_pLL (a b : List (List (Int × Int))) : PyData.eqv (toPy (pLL a)) (toPy (pLL b)) = true ↔ a = b := eqv_lst eqv_pL
theorem dec_of {p : Prop} [Decidable p] {b : Bool} (h : b = true ↔ p) : b = decide p := by
  by_cases q : p
  · rw [h.mpr q, decide_eq_true q]
  · rw [decide_eq_false q]
    cases b with
    | false => rfl
    | true => exact absurd (h.mp rfl) q
theorem plA_map {α : Type} {enc : α → D} (h : ∀ a, pl (enc a) = true) : ∀ as : List α, plA (as.map enc) = true
  | [] => rfl
  | a :: as => by rw [List.map_cons, plA, h a, plA_map h as]; rfl
theorem lay_map {α : Type} {enc : α → D} (h : ∀ a, (toPy (enc a)).canLay0 = true) : ∀ as : List α, PyData.canLayAll0 (toPys (as.map enc)) = true
  | [] => by rw [List.map_nil, toPys, PyData.canLayAll0]
  | a :: as => by rw [List.map_cons, toPys, PyData.canLayAll0, h a, lay_map h as]; rfl
theorem depth_map {α : Type} {enc : α → D} {n : Nat} (h : ∀ a, (toPy (enc a)).depth ≤ n) : ∀ as : List α, PyData.depthAll (toPys (as.map enc)) ≤ n
  | [] => by rw [List.map_nil, toPys, PyData.depthAll]; exact Nat.zero_le _
  | a :: as => by rw [List.map_cons, toPys, PyData.depthAll]; exact Nat.max_le.mpr ⟨h a, depth_map h as⟩
structure Cmp (n : Nat) (d : D) : Prop where
  p : pl d = true
  l : (toPy d).canLay0 = true
  dp : (toPy d).depth ≤ n
theorem Cmp.ok {n : Nat} {d : D} (c : Cmp n d) (h : n ≤ 64 := by decide) : cmpOk d = true := by
  unfold cmpOk SeqAt.shaped
  rw [c.p, c.l]
  simp
  exact Nat.le_trans c.dp h
theorem cmp_int (i : Int) : Cmp 0 (.int i) := ⟨rfl, by rw [toPy, PyData.canLay0], by rw [toPy, PyData.depth]; exact Nat.le_refl _⟩
theorem cmp_bl (i : Bool) : Cmp 0 (.bl i) := ⟨rfl, by rw [toPy, PyData.canLay0], by rw [toPy, PyData.depth]; exact Nat.le_refl _⟩
theorem cmp_pD (p : Int × Int) : Cmp 1 (pD p) := ⟨rfl, by simp [pD, toPy, toPys, PyData.canLay0, PyData.canLayAll0], by simp [pD, toPy, toPys, PyData.depth, PyData.depthAll]⟩
theorem cmp_lst {α : Type} {enc : α → D} {n : Nat} (h : ∀ a, Cmp n (enc a)) (as : List α) : Cmp (n + 1) (.lst (as.map enc)) := ⟨by rw [pl]; exact plA_map (fun a => (h a).p) as, by rw [toPy, PyData.canLay0]; exact lay_map (fun a => (h a).l) as, by rw [toPy, PyData.depth]; exact Nat.succ_le_succ (depth_map (fun a => (h a).dp) as)⟩
theorem cmp_iL (ns : List Int) : Cmp 1 (iL ns) := cmp_lst cmp_int ns
theorem cmp_bL (ns : List Bool) : Cmp 1 (bL ns) := cmp_lst cmp_bl ns
theorem cmp_pL (ns : List (Int × Int)) : Cmp 2 (pL ns) := cmp_lst cmp_pD ns
theorem cmp_iLL (ns : List (List Int)) : Cmp 2 (iLL ns) := cmp_lst cmp_iL ns
theorem cmp_pLL (ns : List (List (Int × Int))) : Cmp 3 (pLL ns) := cmp_lst cmp_pL ns
section
variable {X : Cx} {env : Env} {m ma mb : Md} {a b e : Expr} {da db d : D} {pos : Pos}
theorem dm_eqT {α : Type} [DecidableEq α] {enc : α → D} {n : Nat} (he : ∀ a b, PyData.eqv (toPy (enc a)) (toPy (enc b)) = true ↔ a = b) (hc : ∀ a, Cmp n (enc a)) (hu : X.A.units + 64 < cLine) {x y : α} (ha : DM X env ma a (enc x)) (hb : DM X env mb b (enc y)) (h : n ≤ 64 := by decide) : DM X env .cl (.Compare a [.Eq] [b] pos) (.bl (decide (x = y))) := by
  rw [← dec_of (he x y)]
  exact dm_eqD hu ha hb ((hc x).ok h) ((hc y).ok h)
theorem dm_neT {α : Type} [DecidableEq α] {enc : α → D} {n : Nat} (he : ∀ a b, PyData.eqv (toPy (enc a)) (toPy (enc b)) = true ↔ a = b) (hc : ∀ a, Cmp n (enc a)) (hu : X.A.units + 64 < cLine) {x y : α} (ha : DM X env ma a (enc x)) (hb : DM X env mb b (enc y)) (h : n ≤ 64 := by decide) : DM X env .cl (.Compare a [.NotEq] [b] pos) (.bl (!decide (x = y))) := by
  rw [← dec_of (he x y)]
  exact dm_neD hu ha hb ((hc x).ok h) ((hc y).ok h)
theorem dt_eqT {α : Type} [DecidableEq α] {enc : α → D} {n : Nat} (he : ∀ a b, PyData.eqv (toPy (enc a)) (toPy (enc b)) = true ↔ a = b) (hc : ∀ a, Cmp n (enc a)) (hu : X.A.units + 64 < cLine) {x y : α} (ha : DM X env ma a (enc x)) (hb : DM X env mb b (enc y)) (h : n ≤ 64 := by decide) : DT X env (.Compare a [.Eq] [b] pos) (decide (x = y)) := by
  rw [← dec_of (he x y)]
  exact dt_eqD hu ha hb ((hc x).ok h) ((hc y).ok h)
theorem dt_neT {α : Type} [DecidableEq α] {enc : α → D} {n : Nat} (he : ∀ a b, PyData.eqv (toPy (enc a)) (toPy (enc b)) = true ↔ a = b) (hc : ∀ a, Cmp n (enc a)) (hu : X.A.units + 64 < cLine) {x y : α} (ha : DM X env ma a (enc x)) (hb : DM X env mb b (enc y)) (h : n ≤ 64 := by decide) : DT X env (.Compare a [.NotEq] [b] pos) (!decide (x = y)) := by
  rw [← dec_of (he x y)]
  exact dt_neD hu ha hb ((hc x).ok h) ((hc y).ok h)
end
section
theorem blk {X : Cx} {N : List Str} {sc scope : Scope} {own : List (Str × Nat)} (h : blkC N sc scope own = true) (e1 : X.N = N := by rfl) (e2 : X.env.scope = sc := by rfl) : blkC X.N X.env.scope scope own = true := by
  rw [e1, e2]
  exact h
end
theorem cm_r {i j : Int} (h : -(2 ^ 64) < j ∧ j < 2 ^ 64) : CMul i j := .inr h
theorem cm_l {i j : Int} (h : -(2 ^ 64) < i ∧ i < 2 ^ 64) : CMul i j := .inl h
theorem imL {α : Type} {enc : α → D} {as : List α} {m : Md} (h : ∀ a, imm (enc a) = true) : m = .cl ∨ immA (as.map enc) = true := .inr (immA_map h)
end DW
set_option Elab.async false
set_option linter.all false
set_option maxRecDepth 100000
set_option maxHeartbeats 2000000
namespace DW
open PySem PySem.Spec L2
theorem atI_nat' {α : Type} {xs : List α} {j : Nat} (dflt : α) (h1 : j < xs.length) : atI xs (j : Int) = some (xs.getD j dflt) := by
  refine atI_nat ?_
  rw [List.getD_eq_getElem?_getD, List.getElem?_eq_getElem h1]
  rfl
theorem atI_getD {α : Type} {xs : List α} {i : Int} (dflt : α) (h0 : 0 ≤ i) (h1 : i < xs.length) : atI xs i = some (xs.getD i.toNat dflt) := by
  obtain ⟨j, rfl⟩ := Int.eq_ofNat_of_zero_le h0
  exact atI_nat' dflt (by omega)
theorem atI_last' {α : Type} {xs : List α} (dflt : α) (h1 : xs ≠ []) : atI xs (-1) = some (xs.getLastD dflt) := by
  obtain ⟨l, x, rfl⟩ : ∃ l x, xs = l ++ [x] := ⟨xs.dropLast, xs.getLast h1, (List.dropLast_concat_getLast h1).symm⟩
  rw [atI_last, List.getLastD_concat]
theorem bl_eq {a b : Bool} (h : a = b) : D.bl a = D.bl b := by rw [h]
theorem int_eq {a b : Int} (h : a = b) : D.int a = D.int b := by rw [h]
abbrev ib (i : Int) : Nat := Builtin.Int.intBits i
theorem ib_def (i : Int) : ib i = if i = 0 then 0 else i.natAbs.log2 + 1 := by
  unfold ib Builtin.Int.intBits
  by_cases h : i = 0 <;> simp [h]
theorem ib_le {i : Int} {n : Nat} (h : i.natAbs < 2 ^ n) : ib i ≤ n := by
  rw [ib_def]
  by_cases h0 : i = 0
  · rw [if_pos h0]; omega
  · rw [if_neg h0]
    have : i.natAbs.log2 < n := (Nat.log2_lt (by omega)).mpr h
    omega
theorem lt_ib (i : Int) : i.natAbs < 2 ^ ib i := by
  rw [ib_def]
  by_cases h0 : i = 0
  · subst h0; simp
  · rw [if_neg h0]
    exact Nat.lt_log2_self
theorem ib_mono {i : Int} {a b : Nat} (h : ib i ≤ a) (h2 : a ≤ b) : ib i ≤ b := Nat.le_trans h h2
theorem ib_add {i j : Int} {n : Nat} (h1 : ib i ≤ n) (h2 : ib j ≤ n) : ib (i + j) ≤ n + 1 := by
  apply ib_le
  have a := Nat.lt_of_lt_of_le (lt_ib i) (Nat.pow_le_pow_right (by decide : 0 < 2) h1)
  have b := Nat.lt_of_lt_of_le (lt_ib j) (Nat.pow_le_pow_right (by decide : 0 < 2) h2)
  have e : 2 ^ (n + 1) = 2 ^ n + 2 ^ n := by rw [Nat.pow_succ]; omega
  rw [e]
  omega
theorem ib_small {i : Int} {n : Nat} (h : i.natAbs < 2 ^ 64) (hn : 64 ≤ n) : ib i ≤ n := Nat.le_trans (ib_le h) hn
theorem ib_mul {i j : Int} {a b : Nat} (h1 : ib i ≤ a) (h2 : ib j ≤ b) : ib (i * j) ≤ a + b := by
  apply ib_le
  have x := Nat.lt_of_lt_of_le (lt_ib i) (Nat.pow_le_pow_right (by decide : 0 < 2) h1)
  have y := Nat.lt_of_lt_of_le (lt_ib j) (Nat.pow_le_pow_right (by decide : 0 < 2) h2)
  rw [Int.natAbs_mul, Nat.pow_add]
  exact Nat.mul_lt_mul'' x y
theorem cmx {i j : Int} {a b : Nat} (h1 : ib i ≤ a) (h2 : ib j ≤ b) (h : a + b ≤ 134217728) : CMulX i j := by
  have h1' : Builtin.Int.intBits i ≤ a := h1
  have h2' : Builtin.Int.intBits j ≤ b := h2
  unfold CMulX
  omega
end DW
set_option Elab.async false
set_option linter.all false
set_option maxRecDepth 100000
set_option maxHeartbeats 4000000
namespace DW
open PySem PySem.Spec PyProof.Rows L2
def rgCV (lo c : Int) (n : Nat) : List V := (List.range n).map fun i : Nat => V.int (lo + (i : Nat) * c)
theorem vals_rgC {lo c : Int} {n : Nat} {acc : Array Value} (h : ItemsOf (fun i v => ∃ t, v = .int (lo + i * c) t) acc n) : Vals (rgCV lo c n) acc.toList := by
  obtain ⟨h1, h2⟩ := h
  have e : acc.toList.length = n := by rw [Array.length_toList]; exact h1
  subst e
  exact vals_of_get acc.toList (fun i : Nat => V.int (lo + (i : Nat) * c)) fun j u hj => (by
    obtain ⟨t, rfl⟩ := h2 j u (by rw [← Array.getElem?_toList]; exact hj)
    exact ⟨t, rfl⟩)
section
variable {X : Cx} {a b c : Expr} {ta : TA} {p pos q qos : Pos}
def tLstRgC (ta : TA) : TE := fun σ H Q => ta σ H fun vs H1 => ∃ (i j k : Int) (n : Nat), vs = [.int i, .int j, .int k] ∧ RgC i j k n ∧ n ≤ 100000 ∧ ∀ l, H1 l = none → Q (.ref l) (upd H1 l (.lst (rgCV i k n)))
theorem pe_listRgC (hc : X.calm = true) (hg : Gl X "list") (hm : X.mg "list" = none) (hgr : Gl X "range") (hmr : X.mg "range" = none) (ha : PA X [a, b, c] ta) (hs : starEach [a, b, c] X.env = (false, eval a X.env) :: starEach [b, c] X.env) (hpl : (backTo pos (starEach [b, c] X.env)).any (·.1) = false)
    (na : ∀ e : Expr, e = .Call (.Name "range" p) [a, b, c] [] pos → starEach [e] X.env = (false, eval e X.env) :: starEach [] X.env) :
    PE X (.Call (.Name "list" q) [.Call (.Name "range" p) [a, b, c] [] pos] [] qos) (tLstRgC ta) := by
  refine ⟨fun pins s σ H Q I h => Call_ (ld_blt I hg hm boot_list (PyProof.Rows.callWith_type1 (args_cons (Call_ (ld_blt I hgr hmr boot_range (PyProof.Rows.callWith_type1 (thn (ha.run pos pins s σ H _ I h) fun us s1 ⟨vs, H1, I1, r1, q1⟩ => ?_) hs hpl))) (na _ rfl)) (na _ rfl)))⟩
  obtain ⟨i, j, k, n, e, ⟨c0, c1, c2, c3⟩, hn, q⟩ := q1
  subst e
  cases r1 with | cons e1 r1 =>
  cases r1 with | cons e2 r1 =>
  cases r1 with | cons e3 r1 =>
    cases r1
    obtain ⟨t, rfl⟩ := e1
    obtain ⟨t', rfl⟩ := e2
    obtain ⟨t'', rfl⟩ := e3
    refine call_range_3 c0 (args_nil ?_) (.inl (PyProof.noPylong_small c1))
    have I2 : Inv X pins σ H1 { s1 with heap := s1.heap.push { cls := .type "range", data := .fields #[.int i t, .int j t', .int k t''] } } := I1.kept (t' := s1.toks) fun b o e => Heap.get?_push_of_some _ e
    refine call_list_range (n := n) (I2.ok.hd hc) (IsRange.new ..) c2 c3 (Nat.le_trans hn (by decide)) fun h' tk acc c' hk e' hi => ?_
    refine ⟨.ref _, upd H1 _ (.lst (rgCV i k n)), I2.laid hk (Nat.le_refl _) ⟨?_, acc.toList, c', vals_rgC hi, ?_⟩, rfl, q _ (I2.hok.fresh (Nat.le_refl _))⟩
    · unfold rgCV; rw [List.length_map, List.length_range]; exact Nat.le_trans hn (by decide)
    · rw [Array.toArray_toList]; exact e'
end
open DW in
theorem RA.rgC {K : PySem.W.Frag} {b : Bool} {H : Hp} {lo c : Int} {n : Nat} : RA K b H (rgCV lo c n) (((List.range n).map fun i : Nat => lo + (i : Nat) * c).map D.int) := by
  have e : rgCV lo c n = ((List.range n).map fun i : Nat => lo + (i : Nat) * c).map V.int := by
    unfold rgCV; rw [List.map_map]; rfl
  rw [e]
  exact RA.ints
section
variable {X : Cx} {env : DW.Env} {ma mb mc : Md} {a b c : Expr} {p pos q qos : Pos} {i j k : Int} {n : Nat}
theorem dm_listRg (hc : X.calm = true) (ml : X.mg "list" = none) (mr : X.mg "range" = none) (ha : DM X env ma a (.int i)) (hb : DM X env mb b (.int j)) (hcc : DM X env mc c (.int k)) (hR : RgC i j k n) (hn : n ≤ 100000) (hg : Gl X "list" := by rfl) (hgr : Gl X "range" := by rfl)
    (hs : starEach [a, b, c] X.env = (false, eval a X.env) :: starEach [b, c] X.env := by rfl) (hs2 : starEach [b, c] X.env = (false, eval b X.env) :: starEach [c] X.env := by rfl) (hs3 : starEach [c] X.env = (false, eval c X.env) :: starEach [] X.env := by rfl) (hpl : (backTo pos (starEach [b, c] X.env)).any (·.1) = false := by rfl)
    (na : starEach [.Call (.Name "range" p) [a, b, c] [] pos] X.env = (false, eval (.Call (.Name "range" p) [a, b, c] [] pos) X.env) :: starEach [] X.env := by rfl) :
    DM X env .cl (.Call (.Name "list" q) [.Call (.Name "range" p) [a, b, c] [] pos] [] qos) (iL ((List.range n).map fun l : Nat => i + (l : Nat) * k)) := fun H0 ps σ H E Q q =>
  (pe_listRgC hc hg ml hgr mr (pa_cons pw_E (pa_cons pw_E (pa_cons pw_E pa_nil hs3) hs2) hs) hs hpl (fun e he => he ▸ na)).w (ha H0 ps σ H E _ fun v H1 s1 r1 => hb H0 ps σ H1 (E.mono s1) _ fun w H2 s2 r2 => hcc H0 ps σ H2 ((E.mono s1).mono s2) _ fun u H3 s3 r3 =>
    ⟨i, j, k, n, by rw [r1.intI, r2.intI, r3.intI], hR, hn, fun l hl => q _ _ (((s1.trans s2).trans s3).trans (same_upd hl)) (.lst ((((E.mono s1).mono s2).mono s3).at_new hl) RA.rgC)⟩)
end
end DW
set_option Elab.async false
set_option linter.all false
set_option maxRecDepth 100000
set_option maxHeartbeats 4000000
namespace DW
open PySem PySem.Spec PyProof.Rows L2
abbrev ses (w : World) : Obj := { cls := .type "set", dict := none, data := .set #[] 0 (.fresh 0 0 (!w.params.followText "set-order")) }
theorem set_list_run {P : Program} {w : World} {A : Around} {E : Value → Shared → Prop} {s : Shared} {l : Addr} {xs : Array Value} (ns : List Int) {Q : Value → Shared → Prop} (hh : A.handled = none) (hl : s.heap.IsList l xs) (hit : IntsAre xs.toList ns) (hb : ns.length + 1 < scanBound)
    (h : ∀ (h' : Heap) (tk c : Nat), SetR w h' s.heap.objs.size (fun j => decide (j ∈ ns)) c → c ≤ ns.length → (∀ b o, s.heap.get? b = some o → h'.get? b = some o) → Q (.ref s.heap.objs.size) { s with heap := h', toks := tk }) : wpAny (model P w) A (call (.type "set") [.ref l]) Q E s := by
  have hsz : xs.size = ns.length := by have q := IntsAre.length hit; rw [Array.length_toList] at q; exact q
  obtain ⟨cc, tl, hmro⟩ := F.called_set.mro; have z1 := F.called_set.made; have z2 := F.called_set.sub
  refine wpAny_call (codeAny_of_tree ?_); show wpAny _ _ (callAny (.type "set") _) _ _ _
  refine wpAny_pure ⟨Code.quiet_builtin _ (by decide +kernel), codeAny_builtin F.entry_type_call ?_⟩; rw [Around.under_plain (weight_type_call_type "set" [.ref l] []) rfl]
  have z3 := F.called_set.notType; have z4 := F.called_set.canCreate; have z5 := F.typeCall_set_1 (.ref l)
  repeat (any_goals (first | assumption | wp_step))
  refine codeAny_mono (code_set_led1 (.ref l) (E := E) (Q₁ := fun ob s1 => ob = .ref s.heap.objs.size ∧ s1 = { s with heap := s.heap.push (ses w) }) ⟨rfl, rfl⟩) fun r s1 hr => ?_
  have hS : (s.heap.push (ses w)).get? s.heap.objs.size = some (ses w) := Heap.get?_push_size _ rfl
  match r, hr with
  | .error e, hr => exact hr
  | .ok .next, hr => exact hr.elim
  | .ok .brk, hr => exact hr.elim
  | .ok .cont, hr => exact hr.elim
  | .ok (.ret ob), ⟨e1, e2⟩ =>
    subst e1; subst e2
    have hT : Shared.TypeIs { s with heap := s.heap.push (ses w) } (.ref s.heap.objs.size) "set" := ⟨_, hS, rfl⟩
    have z6 := F.called_set.init.lookup; have z7 := F.called_set.init.bind (.ref s.heap.objs.size)
    repeat (any_goals (first | assumption | wp_step))
    refine codeAny_mono (codeAny_call_builtin (R := wants (fun r s2 => r = .none ∧ ∃ h' tk c, s2 = { s with heap := h', toks := tk } ∧ SetR w h' s.heap.objs.size (fun j => decide (j ∈ ns)) c ∧ c ≤ ns.length ∧ (∀ b o, s.heap.get? b = some o → h'.get? b = some o)) E) F.called_set.init.plain F.entry_set_init (check_set_init_1 hT ?_)) fun r2 s2 hr2 => ?_
    · obtain ⟨ol, hol, hcl, nl, hdl⟩ := hl
      obtain ⟨oc, od, oda, osl⟩ := ol
      simp only at hcl hdl; subst hcl; subst hdl
      have ho2 : (s.heap.push (ses w)).get? l = some { cls := .type "list", dict := od, data := .seq xs nl, slots := osl } := Heap.get?_push_of_some _ hol
      have y1 := F.sub_list_set; have y2 := F.sub_list_frozenset; have y3 : (Value.type "list" == Value.type "dict") = false := by decide
      have hl1 : (s.heap.push (ses w)).IsList l xs := ⟨_, ho2, rfl, nl, rfl⟩
      unfold Builtin.«set.__init__» noKeywords Builtin.Frozenset.updateFrom; generalize hPI : pyIter = PI; wp_walk; subst hPI
      refine wpAny_pyIter_list hl1 ?_; refine wpAny_bind (wpAny_runValue ?_)
      have lS : l < s.heap.objs.size := Heap.lt_size hol
      have hh3 : A.in1.in1.in1.handled = none := by simp [hh]
      have sz1 : (s.heap.push (ses w)).objs.size = s.heap.objs.size + 1 := Heap.size_push ..
      have neI : l ≠ (s.heap.push (ses w)).objs.size := by rw [sz1]; exact Nat.ne_of_lt (Nat.lt_succ_of_lt lS)
      have nS : s.heap.objs.size ∉ [(s.heap.push (ses w)).objs.size, l] := by
        rw [sz1]; intro z; rcases List.mem_cons.mp z with z | z
        · exact absurd z (Nat.ne_of_lt (Nat.lt_succ_self _))
        · exact absurd (List.mem_singleton.mp z) (Nat.ne_of_gt lS)
      have val : ∀ (i : Nat) (v : Value), xs[i]? = some v → ∃ k t, ns[i]? = some k ∧ v = .int k t := fun i v hv => by
        have hi : i < ns.length := by rw [← hsz]; exact (Array.getElem?_eq_some_iff.mp hv).1
        obtain ⟨t, e⟩ := PyProof.Rows.IntsAre.int_at hit i v (by rw [Array.getElem?_toList]; exact hv)
        exact ⟨ns[i], t, List.getElem?_eq_getElem hi, by rw [e, List.getD_eq_getElem?_getD, List.getElem?_eq_getElem hi]; rfl⟩
      refine set_update_ints ((Walks.list hh3 _ l neI xs).toS) s.heap.objs.size nS ns hsz hb val (xs.size - 0) 0 _ (by omega) (Nat.zero_le _) ⟨⟨_, Heap.get?_push_size _ rfl, rfl, rfl⟩, (hl1.push _)⟩ ⟨0, Nat.le_refl 0, setR_new_at (Heap.get?_push_of_some _ hS)⟩ ?_
      intro s' c' hm hc' hS'
      obtain ⟨h', g2, d', tk', os'⟩ := s'
      have eg : g2 = s.gens := hm.gens; have ed : d' = s.drawn := hm.drawn; have eo : os' = s.os := hm.os
      subst eg; subst ed; subst eo
      show wpAny _ _ _ _ _ _; refine wpAny_pure ?_; show wpAny _ _ (ret Value.none) _ _ _
      rw [hsz] at hc'
      refine wpAny_pure ⟨rfl, h', tk', c', rfl, hS', hc', fun b o e => ?_⟩
      have hb0 : b < s.heap.objs.size := Heap.lt_size e
      exact hm.heap b o (by
        rw [sz1]; intro z; rcases List.mem_cons.mp z with z | z
        · exact absurd z (Nat.ne_of_lt hb0)
        · exact absurd (List.mem_singleton.mp z) (Nat.ne_of_lt (Nat.lt_succ_of_lt hb0))) (Heap.get?_push_of_some _ (Heap.get?_push_of_some _ e))
    · match r2, hr2 with
      | .error e, hr2 => exact hr2
      | .ok .next, hr2 => exact hr2.elim
      | .ok .brk, hr2 => exact hr2.elim
      | .ok .cont, hr2 => exact hr2.elim
      | .ok (.ret v), ⟨e1, h', tk, c', e2, q1, q2, q3⟩ =>
        subst e1; subst e2
        repeat (any_goals (first | assumption | wp_step))
        exact h _ _ _ q1 q2 q3
section
variable {X : Cx}
def rSetI (K : PySem.W.Frag) (w : World) : List V → Hp → VK → Prop := fun vs H Q => ∃ (a : Addr) (ns : List Int), vs = [.ref a] ∧ SqL K H a (ns.map V.int) ∧ ns.length ≤ 4000 ∧ ∀ p c, H p = none → c ≤ ns.length → Q (.ref p) (upd H p (SetO w p (fun j => decide (j ∈ ns)) c))
theorem cr_setI (hc : X.calm = true) : CallR X (.type "set") (rSetI X.K X.w) := by
  intro pins s σ H vs us Q I r h
  obtain ⟨a, ns, rfl, hs, hl, q⟩ := h
  rw [Vals.ref1 r]
  obtain ⟨its, rv, pl, hz⟩ := I.list hs
  refine set_list_run ns (I.ok.hd hc) pl.isList (by simpa using Vals.ints rv) (by unfold scanBound; omega) fun h' tk c R hcn hk => ?_
  exact ⟨.ref _, _, I.laid (t' := tk) hk (Nat.le_refl _) (setO_new R), rfl, q _ c I.fresh hcn⟩
end
end DW
set_option Elab.async false
set_option linter.all false
set_option maxRecDepth 100000
set_option maxHeartbeats 4000000
namespace DW
open PySem PySem.Spec L2
def insD (x : Int) : List Int → List Int
  | [] => [x]
  | y :: r => if x < y then x :: y :: r else if x = y then y :: r else y :: insD x r
def sortD (ns : List Int) : List Int := ns.foldr insD []
theorem mem_insD (x k : Int) : ∀ l : List Int, k ∈ insD x l ↔ k = x ∨ k ∈ l
  | [] => by simp [insD]
  | y :: r => by
    rw [insD]
    split
    · simp
    · split
      · rename_i h; subst h; simp
      · rw [List.mem_cons, mem_insD x k r, List.mem_cons]
        constructor
        · rintro (h | h | h)
          · exact .inr (.inl h)
          · exact .inl h
          · exact .inr (.inr h)
        · rintro (h | h | h)
          · exact .inr (.inl h)
          · exact .inl h
          · exact .inr (.inr h)
theorem insD_pw (x : Int) : ∀ l : List Int, l.Pairwise (· < ·) → (insD x l).Pairwise (· < ·)
  | [], _ => by simp [insD]
  | y :: r, h => by
    rw [insD]
    rw [List.pairwise_cons] at h
    split
    · rename_i hx
      refine List.pairwise_cons.mpr ⟨fun k hk => ?_, List.pairwise_cons.mpr h⟩
      rcases List.mem_cons.mp hk with rfl | hk
      · exact hx
      · have := h.1 k hk; omega
    · split
      · exact List.pairwise_cons.mpr h
      · refine List.pairwise_cons.mpr ⟨fun k hk => ?_, insD_pw x r h.2⟩
        rcases (mem_insD x k r).mp hk with rfl | hk
        · omega
        · exact h.1 k hk
theorem mem_sortD (k : Int) : ∀ ns : List Int, k ∈ sortD ns ↔ k ∈ ns
  | [] => by simp [sortD]
  | n :: ns => by
    show k ∈ insD n (sortD ns) ↔ _
    rw [mem_insD, mem_sortD k ns, List.mem_cons]
theorem sortD_pw : ∀ ns : List Int, (sortD ns).Pairwise (· < ·)
  | [] => by simp [sortD]
  | n :: ns => insD_pw n _ (sortD_pw ns)
theorem insD_len (x : Int) : ∀ l : List Int, (insD x l).length ≤ l.length + 1
  | [] => by simp [insD]
  | y :: r => by
    rw [insD]
    split
    · simp
    · split
      · simp
      · have := insD_len x r
        simp only [List.length_cons]; omega
theorem sortD_len : ∀ ns : List Int, (sortD ns).length ≤ ns.length
  | [] => by simp [sortD]
  | n :: ns => by
    have h1 := insD_len n (sortD ns)
    have h2 := sortD_len ns
    show (insD n (sortD ns)).length ≤ _
    simp only [List.length_cons]; omega
theorem pw_uniq : ∀ {l m : List Int}, l.Pairwise (· < ·) → m.Pairwise (· < ·) → (∀ k, k ∈ l ↔ k ∈ m) → l = m
  | [], [], _, _, _ => rfl
  | [], y :: _, _, _, h => by have := (h y).mpr (by simp); cases this
  | x :: _, [], _, _, h => by have := (h x).mp (by simp); cases this
  | x :: l, y :: m, hl, hm, h => by
    rw [List.pairwise_cons] at hl hm
    have e : x = y := by
      have h1 := (h x).mp (by simp)
      have h2 := (h y).mpr (by simp)
      rcases List.mem_cons.mp h1 with e | h1
      · exact e
      · rcases List.mem_cons.mp h2 with e | h2
        · exact e.symm
        · have := hm.1 x h1; have := hl.1 y h2; omega
    subst e
    have : l = m := pw_uniq hl.2 hm.2 fun k => by
      have hk := h k
      rw [List.mem_cons, List.mem_cons] at hk
      constructor
      · intro z
        rcases hk.mp (.inr z) with e | q
        · subst e; have := hl.1 k z; omega
        · exact q
      · intro z
        rcases hk.mpr (.inr z) with e | q
        · subst e; have := hm.1 k z; omega
        · exact q
    rw [this]
def asInts : List Expr → Option (List Int)
  | [] => some []
  | .Constant (.int i) _ _ :: r => (asInts r).map (i :: ·)
  | _ => none
section
variable {X : Cx} {env : Env} {m : Md} {e : Expr} {pos q : Pos} {p p2 : Pos} {ns : List Int}
theorem dm_sortedSet (hc : X.calm = true) (ms : X.mg "sorted" = none) (mt : X.mg "set" = none) (h : DM X env m e (iL ns)) (hl : ns.length < 64) (hg : Gl X "sorted" := by rfl) (hg2 : Gl X "set" := by rfl) (he : starEach (e :: []) X.env = (false, eval e X.env) :: starEach [] X.env := by rfl) (hpl : (backTo q (starEach [] X.env)).any (·.1) = false := by rfl)
    (he2 : starEach (.Call (.Name "set" p2) [e] [] q :: []) X.env = (false, eval (.Call (.Name "set" p2) [e] [] q) X.env) :: starEach [] X.env := by rfl) (hpl2 : (backTo pos (starEach [] X.env)).any (·.1) = false := by rfl) :
    DM X env .cl (.Call (.Name "sorted" p) [.Call (.Name "set" p2) [e] [] q] [] pos) (iL (sortD ns)) := fun H0 ps σ H E Q qq =>
  (pe_callB (cr_sortedSet hc) hg ms (by decide +kernel) (pa_cons (pe_callTy (cr_setI hc) hg2 mt (by decide +kernel) (pa_cons pw_E pa_nil he) (he := he) (hpl := hpl)) pa_nil he2) (he := he2) (hpl := hpl2)).w (h H0 ps σ H E _ fun v H1 s1 r1 => by
    obtain ⟨a, rfl, hs⟩ := RM.ints r1 (E.same.trans s1)
    refine ⟨a, ns, rfl, hs, by omega, fun p c hp hcn => ⟨p, _, c, rfl, upd_same, by omega, fun ns' p' h1 h2 h3 hp' => ?_⟩⟩
    have e : ns' = sortD ns := pw_uniq h1 (sortD_pw ns) fun k => by rw [h2 k, mem_sortD]; simp
    subst e
    have s2 : Same H1 (upd H1 p (SetO X.w p (fun j => decide (j ∈ ns)) c)) := same_upd hp
    exact qq _ _ ((s1.trans s2).trans (same_upd hp')) (.lst (((E.mono s1).mono s2).at_new hp') RA.ints))
theorem da_ints : ∀ {es : List Expr} {ns : List Int}, asInts es = some ns → DA X env .cl es (ns.map D.int)
  | [], ns, h => by
    obtain rfl : [] = ns := Option.some.inj h
    exact da_nil
  | .Constant (.int i) j p :: r, ns, h => by
    rw [asInts] at h
    cases z : asInts r with
    | none => rw [z] at h; cases h
    | some ms =>
      rw [z] at h
      obtain rfl : i :: ms = ns := Option.some.inj h
      exact da_cons dm_int (da_ints z)
theorem di_enI {as : List Int} {tpos : Pos} {elts : List Expr} {kk : Nat} {p : Pos} (hm : m = .cl ∨ immA (as.map D.int) = true) (hm2 : m ≠ .any) (me : X.mg "enumerate" = none) (h : DM X env m e (.lst (as.map D.int))) (hg : Gl X "enumerate" := by rfl) (hs : starEach [e] X.env = [(false, eval e X.env)] := by rfl) :
    DI X env .cl (.Tuple elts kk tpos) (.Call (.Name "enumerate" p) [e] [] pos) (as.zipIdx.map fun q => pD ((q.2 : Nat), q.1)) := di_en hm hm2 me h hg hs
variable {P : Post} {rest : List Stmt}
theorem dss_ifS {α : Type} (enc : α → D) (i : Nat) {x : Str} {p ipos : Pos} {c : Expr} {k : Bool} {x1 x0 : α} (hN : X.N.Nodup) (h : DT X env c k) (he : k = true → DM X env .cl e (enc x1)) (h2 : DSs X (env.1.set i (.val (enc (if k = true then x1 else x0))), env.2) rest P) (hs0 : env.1[i]? = some (.val (enc x0)) := by rfl) (hi : X.N[i]? = some x := by rfl) (hx : Loc X.env.scope x := by first | exact Or.inl rfl | exact Or.inr rfl) (hs : swapsWith e (some (.Name x p)) pos.line X.env = pure false := by rfl)
    (hf : X.fn x = true ∨ X.env.scope.names.lookup x = some .local := by first | exact .inl rfl | exact .inr rfl) : DSs X env (.If c [.Assign [.Name x p] e pos] [] ipos :: rest) P :=
  dss_if1 h (fun z => dss_set i hN (he z) (dss_nil (by subst z; exact h2)) hi hx hs hf) (fun z => by
    subst z
    have e1 : env.1.set i (.val (enc x0)) = env.1 := by
      apply List.ext_getElem?
      intro j
      by_cases hj : i = j
      · subst hj
        rw [List.getElem?_set, hs0]
        have := (List.getElem?_eq_some_iff.mp hs0).1
        simp [this]
      · rw [List.getElem?_set_ne hj]
    have h3 : DSs X (env.1.set i (.val (enc x0)), env.2) rest P := h2
    rw [e1] at h3
    exact h3)
end
end DW
set_option Elab.async false
set_option linter.all false
set_option maxRecDepth 100000
set_option maxHeartbeats 1000000
namespace DW
open PySem PySem.Spec L2
def spInitL (K : PySem.W.Frag) (C : Addr) (f : Str) : Sp := fun vs H Q _ => ∃ (x dx : Addr) (p : Addr) (xs : List V), vs = [.ref x, .ref p] ∧ H x = some (.ins C dx []) ∧ SqL K H p xs ∧ ∀ q, H q = none → Q .non (upd (upd H q (.lst xs)) x (.ins C dx [(f, .ref q)]))
def spInitI (C : Addr) (f : Str) : Sp := fun vs H Q _ => ∃ (x dx : Addr) (n : Int), vs = [.ref x, .int n] ∧ H x = some (.ins C dx []) ∧ Q .non (upd H x (.ins C dx [(f, .int n)]))
def MakeOk (P : Program) (w : World) (K : PySem.W.Frag) (mg : Str → Option Value) (base : Heap) (x : Str) (C : Addr) (k : Nat) (sp : Sp) : Prop :=
  ∃ (f : Addr) (fd : FuncData) (ps : List Str), mg x = some (.ref C) ∧ Mk K C f ∧ Binds K fd ps [] ∧ FnOk P w K mg base CX0 k f fd ps sp
def MethOk (P : Program) (w : World) (K : PySem.W.Frag) (mg : Str → Option Value) (base : Heap) (C : Addr) (x : Str) (k : Nat) (Rel : List D → D → Prop) : Prop :=
  ∃ (f : Addr) (fd : FuncData) (ps : List Str), Cls K C ∧ Meth K C x f ∧ Binds K fd ps [] ∧ FnOk P w K mg base CX0 k f fd ps (PSp K Rel)
section
variable {X : Cx} {env : Env} {m ma mb : Md} {a b e o : Expr} {da db d : D} {pos : Pos} {K : PySem.W.Frag} {ds : List D} {H0 H : Hp} {ps : List Addr} {σ : L2.St} {v : V} {x : Str} {p : Pos} {C : Addr} {k j : Nat} {fl : Str}
theorem nin_ps {q : Addr} (E : EnvR K H0 ps env σ H) (h : H q = none) : q ∉ ps := fun z => by
  obtain ⟨_, o', h2, _⟩ := E.mu q z
  rw [h] at h2; cases h2
theorem dm_makeL (M : MakeOk X.prog X.w X.K X.mg X.base x C k (spInitL X.K C fl)) (hr : Room j X.A) (ha : DM X env m e (.lst ds)) (hi : immA ds = true) (hk : k + 1 ≤ j := by decide) (hg : Gl X x := by rfl) (hdb : (x == ("__debug__" : Str)) = false := by decide) (he : starEach (e :: []) X.env = (false, eval e X.env) :: starEach [] X.env := by rfl) (hpl : (backTo pos (starEach [] X.env)).any (·.1) = false := by rfl) :
    DM X env .cl (.Call (.Name x p) [e] [] pos) (.obj C fl (.lst ds)) := fun H0 ps σ H E Q q => by
  obtain ⟨f, fd, qs, hm, mk, hb, F⟩ := M
  refine (pe_make mk F (hr.mono hk) hg hm hb .nil pass0 pw_A hdb he hpl).w ((da_any ha da_nil he) H0 ps σ H E _ fun vs H1 s1 r1 => ?_)
  obtain ⟨v, rfl, r⟩ := RMA.one r1
  have E1 := E.mono s1
  obtain ⟨a, xs, rfl, hs, ra⟩ := RM.seq r E1.same
  intro y dy hy hdy hne
  have n1 : ∀ b u, H1 b = some u → b ≠ y ∧ b ≠ dy := fun b u h => ⟨ne_of_none h hy, ne_of_none h hdy⟩
  have sm : Same H1 (upd (upd H1 dy (.own y)) y (.ins C dy [])) := fun b u h => by
    rw [upd_ne (n1 b u h).1, upd_ne (n1 b u h).2]; exact h
  refine ⟨y, dy, a, xs, rfl, upd_same, sm.seq hs, fun z hz => ⟨rfl, ?_⟩⟩
  have hzy : z ≠ y := fun e => by subst e; rw [upd_same] at hz; cases hz
  have hzd : z ≠ dy := fun e => by subst e; rw [upd_ne hne, upd_same] at hz; cases hz
  have hz1 : H1 z = none := by rw [upd_ne hzy, upd_ne hzd] at hz; exact hz
  have sm2 : Same H1 (upd (upd (upd (upd H1 dy (.own y)) y (.ins C dy [])) z (.lst xs)) y (.ins C dy [(fl, .ref z)])) := fun b u h => by
    rw [upd_ne (n1 b u h).1, upd_ne (ne_of_none h hz1)]; exact sm b u h
  have E2 := E1.mono sm2
  have cln : ∀ {b : Addr} {u : HO}, H1 b = none → (upd (upd (upd (upd H1 dy (.own y)) y (.ins C dy [])) z (.lst xs)) y (.ins C dy [(fl, .ref z)])) b = some u → er ps (cl H0 (upd (upd (upd (upd H1 dy (.own y)) y (.ins C dy [])) z (.lst xs)) y (.ins C dy [(fl, .ref z)]))) b = some u := fun h1 h2 => by
    unfold er
    rw [if_neg (nin_ps E1 h1)]
    exact cl_new (E1.same.free h1) h2
  refine q _ _ (s1.trans sm2) (.obj (cln hy upd_same) (.lst (cln hz1 (by rw [upd_ne hzy, upd_same])) ?_))
  exact E2.immA hi (RA.mono sm2 id ra)
theorem dm_makeI {n : Int} (M : MakeOk X.prog X.w X.K X.mg X.base x C k (spInitI C fl)) (hr : Room j X.A) (ha : DM X env m e (.int n)) (hk : k + 1 ≤ j := by decide) (hg : Gl X x := by rfl) (hdb : (x == ("__debug__" : Str)) = false := by decide) (he : starEach (e :: []) X.env = (false, eval e X.env) :: starEach [] X.env := by rfl) (hpl : (backTo pos (starEach [] X.env)).any (·.1) = false := by rfl) :
    DM X env .cl (.Call (.Name x p) [e] [] pos) (.obj C fl (.int n)) := fun H0 ps σ H E Q q => by
  obtain ⟨f, fd, qs, hm, mk, hb, F⟩ := M
  refine (pe_make mk F (hr.mono hk) hg hm hb .nil pass0 pw_A hdb he hpl).w ((da_any ha da_nil he) H0 ps σ H E _ fun vs H1 s1 r1 => ?_)
  obtain ⟨v, rfl, r⟩ := RMA.one r1
  have E1 := E.mono s1
  obtain rfl := r.intI
  intro y dy hy hdy hne
  have sm2 : Same H1 (upd (upd (upd H1 dy (.own y)) y (.ins C dy [])) y (.ins C dy [(fl, .int n)])) := fun b u h => by
    rw [upd_ne (ne_of_none h hy), upd_ne (ne_of_none h hy), upd_ne (ne_of_none h hdy)]; exact h
  refine ⟨y, dy, n, rfl, upd_same, rfl, ?_⟩
  refine q _ _ (s1.trans sm2) (.obj (dx := dy) (v := .int n) ?_ (R.int n))
  unfold er
  rw [if_neg (nin_ps E1 hy)]
  exact cl_new (E1.same.free hy) upd_same
theorem dm_meth {mm : Str} {apos : Pos} {es : List Expr} {Rel : List D → D → Prop} {pls : Sem Bool} (M : MethOk X.prog X.w X.K X.mg X.base C mm k Rel) (hr : Room j X.A) (ho : DM X env m o (.obj C fl da)) (ha : DA X env .any (e :: es) ds) (h : Rel (.obj C fl da :: ds) d) (hne : (mm == fl) = false := by decide) (hk : k ≤ j := by decide)
    (hst : starEach (e :: es) X.env = (false, eval e X.env) :: starEach es X.env := by rfl) (hpl : (backTo pos (starEach es X.env)).any (·.1) = false := by rfl)
    (ht : eval (.Call (.Attribute o mm apos) (e :: es) [] pos) X.env = (do
      let ov ← eval o X.env
      standAt apos.atName
      let (f, first) ← holding [ov] (getMethod ov mm pls)
      callWith pos f first (backTo pos (starEach (e :: es) X.env)) (backToKw pos (keywordEach [] X.env))) := by rfl) :
    DM X env .cl (.Call (.Attribute o mm apos) (e :: es) [] pos) d := fun H0 ps σ H E Q q => by
  obtain ⟨f, fd, qs, c, hm, hb, F⟩ := M
  refine (pe_meth pw_E c hm F (hr.mono hk) hb .nil pass0 pw_A hst hpl ht).w (ho H0 ps σ H E _ fun v H1 s1 r1 => ?_)
  obtain ⟨y, dx, u, rfl, hy, ru⟩ := RM.objI r1 (E.mono s1).same
  refine ⟨y, dx, _, rfl, hy, ?_, ha H0 ps σ H1 (E.mono s1) _ fun vs H2 s2 r2 => ?_⟩
  · simp only [List.lookup, hne]
  · have r1' := RM.any ((E.mono s1).mono s2).same (RM.mono s2 r1)
    refine ⟨_, d, by rw [List.append_nil]; exact .cons r1' r2, h, fun w H3 s3 r3 => ?_⟩
    exact q w H3 ((s1.trans s2).trans s3) (((E.mono s1).mono s2).made s3 r3)
end
end DW
set_option Elab.async false
set_option linter.all false
set_option maxRecDepth 100000
set_option maxHeartbeats 1000000
namespace DW
open PySem PySem.Spec L2
section
variable {X : Cx} {env : Env} {m ma mb : Md} {a b e : Expr} {da db d : D} {pos : Pos} {K : PySem.W.Frag} {ds : List D} {H0 H : Hp} {ps : List Addr} {σ : L2.St} {v : V} {P P' : Post} {rest : List Stmt}
theorem DSs.imp {sts : List Stmt} (h : DSs X env sts P) (nx : ∀ e, P.nx e → P'.nx e) (rt : ∀ d, P.rt d → P'.rt d) (bk : ∀ e, P.bk e → P'.bk e) (ct : ∀ e, P.ct e → P'.ct e) : DSs X env sts P' := fun H0 ps σ H E l De ok =>
  h H0 ps σ H E l De ⟨fun e p s h' q => ok.nx e p s h' (nx e q), fun d v h' q => ok.rt d v h' (rt d q), fun e p s h' q => ok.bk e p s h' (bk e q), fun e p s h' q => ok.ct e p s h' (ct e q)⟩
theorem dss_ifJ {c : Expr} {A : List Stmt} {k : Bool} (env' : Env) (h : DT X env c k) (h1 : k = true → DSs X env A { P with nx := fun e => e = env' }) (h2 : k = false → env = env') (h3 : DSs X env' rest P) : DSs X env (.If c A [] pos :: rest) P :=
  dss_if1 h (fun z => (h1 z).imp (fun e q => by subst q; exact h3) (fun _ q => q) (fun _ q => q) (fun _ q => q)) (fun z => by rw [h2 z]; exact h3)
theorem EnvR.dropOwn {ow : List D} (E : EnvR K H0 ps (env.1, env.2 ++ ow) σ H) : EnvR K H0 ps env σ H := ⟨E.same, E.mu, E.nd, fun j d q => E.ow j d (by
  show (env.2 ++ ow)[j]? = some d
  rw [List.getElem?_append_left (List.getElem?_eq_some_iff.mp q).1]; exact q), E.sl⟩
theorem dss_pairN (i j : Nat) {x y : Str} {px py pt : Pos} {kt k2 : Nat} {pt2 : Pos} (hc : X.calm = true) (hN : X.N.Nodup) (ha : DN X env a ds) (hi' : immA ds = true) (hb : DM X env mb b db) (h2 : DSs X ((env.1.set i (.own env.2.length)).set j (slotOf mb db), env.2 ++ [.lst ds]) rest P)
    (hi : X.N[i]? = some x := by rfl) (hj : X.N[j]? = some y := by rfl) (hij : i ≠ j := by decide) (hx : X.env.scope.names.lookup x = some .local := by rfl) (hy : X.env.scope.names.lookup y = some .local := by rfl)
    (hw : swappedStores [.Tuple [.Name x px, .Name y py] kt pt] (.Tuple [a, b] k2 pt2) X.env = pure (some [x, y]) := by rfl)
    (hs : swapsWithSole [.Tuple [.Name x px, .Name y py] kt pt] (.Tuple [a, b] k2 pt2) pos.line X.env = pure false := by rfl) (hst : starEach (a :: [b]) X.env = (false, eval a X.env) :: starEach [b] X.env := by rfl) (hst2 : starEach (b :: []) X.env = (false, eval b X.env) :: starEach [] X.env := by rfl) :
    DSs X env (.Assign [.Tuple [.Name x px, .Name y py] kt pt] (.Tuple [a, b] k2 pt2) pos :: rest) P := dss_of (ps_par hc hN hi hj hij hx hy (pa_cons pw_E (pa_cons pw_E pa_nil hst2) hst) hw hs) fun H0 ps σ H E l De ok =>
  ha H0 ps σ H E _ fun q xs H1 s1 hq hq1 ra => by
    have mu1 : ∀ r ∈ ps ++ [q], ∃ o, H1 r = some o ∧ isM o := fun r hr => by
      rcases List.mem_append.mp hr with y | y
      · obtain ⟨_, o', h2, h3⟩ := E.mu r y
        exact ⟨o', s1 _ _ h2, h3⟩
      · obtain rfl : r = q := by simpa using y
        exact ⟨_, hq1, trivial⟩
    have E1 : EnvR X.K H0 (ps ++ [q]) (env.1, env.2 ++ [.lst ds]) σ H1 := E.addOwn l s1 hq hq1 trivial ⟨xs, hq1, RA.imm (tups_ec mu1) hi' ra⟩
    refine hb H0 (ps ++ [q]) σ H1 E1.dropOwn _ fun w H2 s2 r2 => ⟨_, w, rfl, ⟨fun pins s I => ?_⟩⟩
    have z := I.len
    rw [List.length_set, List.length_set] at z
    have li : i < σ.length := by rw [z]; exact (List.getElem?_eq_some_iff.mp hi).1
    have lj : j < σ.length := by rw [z]; exact (List.getElem?_eq_some_iff.mp hj).1
    have E2 := E1.mono s2
    have E3 : EnvR X.K H0 (ps ++ [q]) (env.1.set i (.own env.2.length), env.2 ++ [.lst ds]) (List.set σ i (some (.ref q))) H2 := E2.put li ⟨q, rfl, by rw [← l]; simp⟩
    exact (h2 H0 _ _ H2 (E3.put (by rw [List.length_set]; exact lj) (slotOf_ok r2)) (by simp [l]) De (ok.step ((Fr.app s1 hq).trans (Fr.of_same s2)))).run pins s I
theorem ixN_len {α β : Type} {xs : List α} {ys : List β} (h : xs.length = ys.length) (i : Int) : ixN xs.length i = ixN ys.length i := by rw [h]
theorem dss_lput (i : Nat) {j n : Nat} {x : Str} {p pos' : Pos} {k : Int} (h : DM X env m e d) (hi' : DW.imm d = true) (hk : DM X env mb b (.int k)) (hn : ixN ds.length k = some n) (h2 : DSs X (env.1, env.2.set j (.lst (ds.set n d))) rest P) (hs : env.1[i]? = some (.own j) := by rfl) (ho : env.2[j]? = some (.lst ds) := by rfl) (hN : X.N[i]? = some x := by rfl) (hv : Vis X.env.scope x := by first | exact Or.inl rfl | exact Or.inr (Or.inl rfl) | exact Or.inr (Or.inr rfl)) (hd : (x == ("__debug__" : Str)) = false := by decide)
    (hcd : (x == ("__classdict__" : Str)) = false := by decide) (hs2 : swapsWithSole [.Subscript (.Name x p) b pos'] e pos.line X.env = pure false := by rfl) (hw : swappedStores [.Subscript (.Name x p) b pos'] e X.env = pure none := by rfl) (h1 : (assignEach [.Subscript (.Name x p) b pos'] X.env).map (·.2) = [assign (.Subscript (.Name x p) b pos') X.env] := by rfl)
    (hasg : ∀ v, assign (.Subscript (.Name x p) b pos') X.env v = (do
      let ov ← holding [v] (eval (.Name x p) X.env)
      let iv ← holding [v, ov] (eval b X.env)
      standAt pos'
      holding [v, ov, iv] (setItem ov iv v)
      release [v, ov, iv] []) := by intro _; rfl) :
    DSs X env (.Assign [.Subscript (.Name x p) b pos'] e pos :: rest) P := dss_of (ps_asg pw_E (pg_sub (pe_var hN hv hd hcd) pw_E set_list hasg) hs2 hw h1) fun H0 ps σ H E l De ok => by
  refine h H0 ps σ H E _ fun v H1 s1 r1 => ?_
  have E1 := E.mono s1
  obtain ⟨q, xs, h3, h4, h5, h6⟩ := E1.ownLst hs ho
  refine ⟨_, h3, hk H0 ps σ H1 E1 _ fun w H2 s2 r2 => ?_⟩
  have E2 := E1.mono s2
  have hq : q ∈ ps := List.mem_of_getElem? h4
  obtain rfl := r2.intI
  refine ⟨q, xs, k, n, rfl, rfl, s2 _ _ h5, by rw [RA.length h6]; exact hn, ?_⟩
  have ra : RA X.K false (er ps (cl H0 H2)) (xs.set n v) (ds.set n d) := RA.set n (RM.imm E2 hi' (RM.mono s2 r1)) (RA.mono (ec_mono s2) id h6)
  exact h2 H0 ps σ _ (E2.pokeOwn h4 (o := .lst (xs.set n v)) trivial ⟨_, upd_same, by rw [ec_poke hq]; exact ra⟩) (by simp [l]) De (ok.step ((Fr.of_same (s1.trans s2)).trans (Fr.poke hq)))
theorem dss_popAt (i : Nat) {j n : Nat} {x : Str} {p apos cpos : Pos} {k : Int} (hk : DM X env mb b (.int k)) (h1k : -(2 ^ 63) ≤ k) (h2k : k < 2 ^ 63) (hn : seqIndex? k ds.length = some n) (hn2 : n < ds.length) (h2 : DSs X (env.1, env.2.set j (.lst (ds.eraseIdx n))) rest P) (hs : env.1[i]? = some (.own j) := by rfl) (ho : env.2[j]? = some (.lst ds) := by rfl) (hN : X.N[i]? = some x := by rfl) (hv : Vis X.env.scope x := by first | exact Or.inl rfl | exact Or.inr (Or.inl rfl) | exact Or.inr (Or.inr rfl)) (hd : (x == ("__debug__" : Str)) = false := by decide)
    (hcd : (x == ("__classdict__" : Str)) = false := by decide) (hbase : attributeBase (.Name x p) "pop" X.env (eval (.Name x p) X.env) = eval (.Name x p) X.env := by rfl)
    (hfew : ((backTo cpos (starEach (b :: []) X.env)).all (fun x => !x.1) && (backToKw cpos (keywordEach [] X.env)).all (fun x => x.1.isSome) && decide ((b :: []).length + ([] : List Keyword).length + (if ([] : List Keyword).isEmpty then 0 else 1) < 30)) = true := by rfl)
    (hline : (apos.endLine == cpos.line) = true := by rfl) (hst : starEach (b :: []) X.env = (false, eval b X.env) :: starEach [] X.env := by rfl) (hplain : (backTo cpos (starEach [] X.env)).any (·.1) = false := by rfl)
    (hsw : swapsWith (.Call (.Attribute (.Name x p) "pop" apos) [b] [] cpos) none pos.line X.env = pure false := by rfl) :
    DSs X env (.Expr (.Call (.Attribute (.Name x p) "pop" apos) [b] [] cpos) pos :: rest) P := dss_of (ps_expr (pe_bm PySem.F.plainAttrs_list PySem.F.slot_list_pop PySem.F.type_list_pop mt_popAt (pe_var hN hv hd hcd) (pa_cons pw_E pa_nil hst) hbase hfew hline hst hplain) hsw) fun H0 ps σ H E l De ok => by
  obtain ⟨q, xs, h3, h4, h5, h6⟩ := E.ownLst hs ho
  refine ⟨_, h3, .inl ⟨rfl, xs, SqL.of h5⟩, hk H0 ps σ H E _ fun w H1 s1 r1 => ?_⟩
  have E1 := E.mono s1
  have hq : q ∈ ps := List.mem_of_getElem? h4
  obtain rfl := r1.intI
  have hlen := RA.length h6
  have hget : xs[n]? = some xs[n] := List.getElem?_eq_getElem (by omega)
  refine ⟨q, xs, k, n, xs[n], rfl, rfl, s1 _ _ h5, h1k, h2k, by rw [hlen]; exact hn, hget, ?_⟩
  have ra : RA X.K false (er ps (cl H0 H1)) (xs.eraseIdx n) (ds.eraseIdx n) := RA.eraseIdx n (RA.mono (ec_mono s1) id h6)
  exact h2 H0 ps σ _ (E1.pokeOwn h4 (o := .lst (xs.eraseIdx n)) trivial ⟨_, upd_same, by rw [ec_poke hq]; exact ra⟩) (by simp [l]) De (ok.step ((Fr.of_same s1).trans (Fr.poke hq)))
theorem dss_ins (i : Nat) {j : Nat} {x : Str} {p apos cpos : Pos} {k : Int} (hk : DM X env mb b (.int k)) (h : DM X env m e d) (hi' : DW.imm d = true) (h0k : 0 ≤ k) (h2k : k < 2 ^ 63) (hl : ds.length < 100000) (h2 : DSs X (env.1, env.2.set j (.lst (ds.take k.toNat ++ [d] ++ ds.drop k.toNat))) rest P) (hs : env.1[i]? = some (.own j) := by rfl) (ho : env.2[j]? = some (.lst ds) := by rfl) (hN : X.N[i]? = some x := by rfl) (hv : Vis X.env.scope x := by first | exact Or.inl rfl | exact Or.inr (Or.inl rfl) | exact Or.inr (Or.inr rfl)) (hd : (x == ("__debug__" : Str)) = false := by decide)
    (hcd : (x == ("__classdict__" : Str)) = false := by decide) (hbase : attributeBase (.Name x p) "insert" X.env (eval (.Name x p) X.env) = eval (.Name x p) X.env := by rfl)
    (hfew : ((backTo cpos (starEach (b :: [e]) X.env)).all (fun x => !x.1) && (backToKw cpos (keywordEach [] X.env)).all (fun x => x.1.isSome) && decide ((b :: [e]).length + ([] : List Keyword).length + (if ([] : List Keyword).isEmpty then 0 else 1) < 30)) = true := by rfl)
    (hline : (apos.endLine == cpos.line) = true := by rfl) (hst : starEach (b :: [e]) X.env = (false, eval b X.env) :: starEach [e] X.env := by rfl) (hst2 : starEach (e :: []) X.env = (false, eval e X.env) :: starEach [] X.env := by rfl) (hplain : (backTo cpos (starEach [e] X.env)).any (·.1) = false := by rfl)
    (hsw : swapsWith (.Call (.Attribute (.Name x p) "insert" apos) [b, e] [] cpos) none pos.line X.env = pure false := by rfl) :
    DSs X env (.Expr (.Call (.Attribute (.Name x p) "insert" apos) [b, e] [] cpos) pos :: rest) P := dss_of (ps_expr (pe_bm PySem.F.plainAttrs_list PySem.F.slot_list_insert PySem.F.type_list_insert mt_insert (pe_var hN hv hd hcd) (pa_cons pw_E (pa_cons pw_E pa_nil hst2) hst) hbase hfew hline hst hplain) hsw) fun H0 ps σ H E l De ok => by
  obtain ⟨q, xs, h3, h4, h5, h6⟩ := E.ownLst hs ho
  refine ⟨_, h3, .inl ⟨rfl, xs, SqL.of h5⟩, hk H0 ps σ H E _ fun w H1 s1 r1 => h H0 ps σ H1 (E.mono s1) _ fun v H2 s2 r2 => ?_⟩
  have E2 := (E.mono s1).mono s2
  have hq : q ∈ ps := List.mem_of_getElem? h4
  obtain rfl := r1.intI
  have hlen := RA.length h6
  refine ⟨q, xs, k, v, rfl, rfl, (s1.trans s2) _ _ h5, szlt (by rw [hlen]; exact hl), h0k, h2k, ?_⟩
  have ra0 := RA.mono (b' := false) (ec_mono (H0 := H0) (ps := ps) (s1.trans s2)) id h6
  have ra : RA X.K false (er ps (cl H0 H2)) (xs.take k.toNat ++ [v] ++ xs.drop k.toNat) (ds.take k.toNat ++ [d] ++ ds.drop k.toNat) := RA.append (RA.snoc (RA.take _ ra0) (RM.imm E2 hi' r2)) (RA.drop _ ra0)
  exact h2 H0 ps σ _ (E2.pokeOwn h4 (o := .lst _) trivial ⟨_, upd_same, by rw [ec_poke hq]; exact ra⟩) (by simp [l]) De (ok.step ((Fr.of_same (s1.trans s2)).trans (Fr.poke hq)))
theorem dss_swap (i : Nat) {c f : Expr} {mc mf : Md} {dc de : D} {j n n2 : Nat} {x : Str} {p1 p2 q1 q2 tp ep : Pos} {kt ke : Nat} {k k2 : Int} (hcm : X.calm = true) (hc : DM X env mc c dc) (hi1 : DW.imm dc = true) (hf : DM X env mf f de) (hi2 : DW.imm de = true)
    (hk : DM X env ma a (.int k)) (hn : ixN ds.length k = some n) (hk2 : DM X (env.1, env.2.set j (.lst (ds.set n dc))) mb b (.int k2)) (hn2 : ixN ds.length k2 = some n2) (h2 : DSs X (env.1, (env.2.set j (.lst (ds.set n dc))).set j (.lst ((ds.set n dc).set n2 de))) rest P) (hs : env.1[i]? = some (.own j) := by rfl) (ho : env.2[j]? = some (.lst ds) := by rfl) (hN : X.N[i]? = some x := by rfl) (hv : Vis X.env.scope x := by first | exact Or.inl rfl | exact Or.inr (Or.inl rfl) | exact Or.inr (Or.inr rfl)) (hd : (x == ("__debug__" : Str)) = false := by decide)
    (hcd : (x == ("__classdict__" : Str)) = false := by decide) (hs2 : swapsWithSole [.Tuple [.Subscript (.Name x p1) a q1, .Subscript (.Name x p2) b q2] kt tp] (.Tuple [c, f] ke ep) pos.line X.env = pure false := by rfl) (hw : swappedStores [.Tuple [.Subscript (.Name x p1) a q1, .Subscript (.Name x p2) b q2] kt tp] (.Tuple [c, f] ke ep) X.env = pure none := by rfl)
    (h1 : (assignEach [.Tuple [.Subscript (.Name x p1) a q1, .Subscript (.Name x p2) b q2] kt tp] X.env).map (·.2) = [assign (.Tuple [.Subscript (.Name x p1) a q1, .Subscript (.Name x p2) b q2] kt tp) X.env] := by rfl)
    (hst : starEach (c :: [f]) X.env = (false, eval c X.env) :: starEach [f] X.env := by rfl) (hst2 : starEach (f :: []) X.env = (false, eval f X.env) :: starEach [] X.env := by rfl)
    (g1 : (assignEach (.Subscript (.Name x p1) a q1 :: [.Subscript (.Name x p2) b q2]) X.env).map (·.2) = assign (.Subscript (.Name x p1) a q1) X.env :: (assignEach [.Subscript (.Name x p2) b q2] X.env).map (·.2) := by rfl) (g2 : (assignEach (.Subscript (.Name x p2) b q2 :: []) X.env).map (·.2) = assign (.Subscript (.Name x p2) b q2) X.env :: (assignEach [] X.env).map (·.2) := by rfl)
    (gl : (assignEach [.Subscript (.Name x p1) a q1, .Subscript (.Name x p2) b q2] X.env).length = 2 := by rfl) (gf : (assignEach [.Subscript (.Name x p1) a q1, .Subscript (.Name x p2) b q2] X.env).findIdx? (fun x => x.1) = none := by rfl)
    (ha1 : ∀ v, assign (.Subscript (.Name x p1) a q1) X.env v = (do
      let ov ← holding [v] (eval (.Name x p1) X.env)
      let iv ← holding [v, ov] (eval a X.env)
      standAt q1
      holding [v, ov, iv] (setItem ov iv v)
      release [v, ov, iv] []) := by intro _; rfl)
    (ha2 : ∀ v, assign (.Subscript (.Name x p2) b q2) X.env v = (do
      let ov ← holding [v] (eval (.Name x p2) X.env)
      let iv ← holding [v, ov] (eval b X.env)
      standAt q2
      holding [v, ov, iv] (setItem ov iv v)
      release [v, ov, iv] []) := by intro _; rfl) :
    DSs X env (.Assign [.Tuple [.Subscript (.Name x p1) a q1, .Subscript (.Name x p2) b q2] kt tp] (.Tuple [c, f] ke ep) pos :: rest) P :=
  dss_of (ps_asg (pe_tup (pa_cons pw_E (pa_cons pw_E pa_nil hst2) hst)) (pg_tup hcm (pgs_cons (pg_sub (pe_var hN hv hd hcd) pw_E set_list ha1) (pgs_cons (pg_sub (pe_var hN hv hd hcd) pw_E set_list ha2) pgs_nil g2) g1) gl gf) hs2 hw h1) fun H0 ps σ H E l De ok => by
  refine hc H0 ps σ H E _ fun v H1 s1 r1 => hf H0 ps σ H1 (E.mono s1) _ fun w H2 s2 r2 => ⟨by show 2 ≤ sizeLine; decide, fun T hT => ?_⟩
  have s3 : Same H2 (upd H2 T (.tup [v, w])) := same_upd hT
  have E3 := ((E.mono s1).mono s2).mono s3
  have R1 := RM.imm E3 hi1 (RM.mono (s2.trans s3) r1)
  have R2 := RM.imm E3 hi2 (RM.mono s3 r2)
  refine ⟨T, [v, w], rfl, SqT.of upd_same, rfl, v, [w], rfl, ?_⟩
  obtain ⟨q, xs, h3, h4, h5, h6⟩ := E3.ownLst hs ho
  have hq : q ∈ ps := List.mem_of_getElem? h4
  refine ⟨_, h3, hk H0 ps σ _ E3 _ fun u H4 s4 r4 => ?_⟩
  have E4 := E3.mono s4
  obtain rfl := r4.intI
  have ra4 := RA.mono (b' := false) (ec_mono (H0 := H0) (ps := ps) s4) id h6
  refine ⟨q, xs, k, n, rfl, rfl, s4 _ _ h5, by rw [RA.length h6]; exact hn, w, [], rfl, ?_⟩
  have ra5 : RA X.K false (er ps (cl H0 H4)) (xs.set n v) (ds.set n dc) := RA.set n (R.mono (ec_mono s4) id R1) ra4
  have E5 : EnvR X.K H0 ps (env.1, env.2.set j (.lst (ds.set n dc))) σ (upd H4 q (.lst (xs.set n v))) := E4.pokeOwn h4 trivial ⟨_, upd_same, by rw [ec_poke hq]; exact ra5⟩
  refine ⟨_, h3, hk2 H0 ps σ _ E5 _ fun u H6 s6 r6 => ?_⟩
  have E6 := E5.mono s6
  obtain rfl := r6.intI
  have hjl : j < env.2.length := (List.getElem?_eq_some_iff.mp ho).1
  obtain ⟨q', xs', h3', h4', h5', h6'⟩ := E6.ownLst (j := j) (ds := ds.set n dc) hs (by show (env.2.set j _)[j]? = _; rw [List.getElem?_set]; simp [hjl])
  obtain rfl : q' = q := Option.some.inj (h4'.symm.trans h4)
  refine ⟨q', xs', k2, n2, rfl, rfl, h5', by rw [RA.length h6', List.length_set]; exact hn2, rfl, ?_⟩
  have R7 : R X.K false (er ps (cl H0 H6)) w de := by
    have z : R X.K false (er ps (cl H0 (upd H4 q' (.lst (xs.set n v))))) w de := by rw [ec_poke hq]; exact R.mono (ec_mono s4) id R2
    exact R.mono (ec_mono s6) id z
  have E8 := E6.pokeOwn (d := .lst ((ds.set n dc).set n2 de)) (o := .lst (xs'.set n2 w)) h4' trivial ⟨_, upd_same, by rw [ec_poke hq]; exact RA.set n2 R7 h6'⟩
  exact h2 H0 ps σ _ E8 (by simp [l]) De (ok.step (((((Fr.of_same (s1.trans (s2.trans s3))).trans (Fr.of_same s4)).trans (Fr.poke hq)).trans (Fr.of_same s6)).trans (Fr.poke hq)))
end
end DW
set_option Elab.async false
set_option linter.all false
set_option maxRecDepth 100000
set_option maxHeartbeats 1000000
namespace DW
open PySem PySem.Spec L2
section
variable {X : Cx} {env : Env} {m ma mb : Md} {a b e : Expr} {da db d : D} {pos : Pos}
theorem dm_cl (h : DM X env m e d) (hi : imm d = true) : DM X env .cl e d := fun H0 ps σ H E Q q =>
  h H0 ps σ H E Q fun v H1 s1 r1 => q v H1 s1 (RM.imm (E.mono s1) hi r1)
end
end DW
set_option Elab.async false
set_option linter.all false
set_option maxRecDepth 100000
set_option maxHeartbeats 1000000
namespace DW
open PySem PySem.Spec L2
section
variable {X : Cx} {env : Env} {m ma mb : Md} {a b e o : Expr} {da db d : D} {pos : Pos} {K : PySem.W.Frag} {ds : List D} {H0 H : Hp} {ps : List Addr} {σ : L2.St} {v : V} {x : Str} {p : Pos} {C : Addr} {k j : Nat} {fl : Str} {P : Post} {rest : List Stmt}
def DNo (X : Cx) (env : Env) (e : Expr) (C : Addr) (fl : Str) (ds : List D) : Prop := ∀ (H0 : Hp) (ps : List Addr) (σ : L2.St) (H : Hp), EnvR X.K H0 ps env σ H → ∀ Q : VK, (∀ p q dx xs H2, Same H H2 → H p = none → H q = none → H2 p = some (.ins C dx [(fl, .ref q)]) → H2 q = some (.lst xs) → RA X.K true H2 xs ds → Q (.ref p) H2) → wE X e σ H Q
theorem cl_fresh {H1 H' : Hp} {a : Addr} {o : HO} (h : cl H1 H' a = some o) (ht : ∀ vs, o ≠ .tup vs) : H1 a = none := by
  cases z : H1 a with
  | none => rfl
  | some u =>
    obtain ⟨vs, e2, _⟩ := cl_old z h
    exact absurd e2 (ht vs)
theorem dno_call {es : List Expr} {args : List D} {Rel : List D → D → Prop} (c : CallOk X.prog X.w X.K X.mg X.base x k Rel) (hr : Room j X.A) (ha : DA X env .any (e :: es) args) (h : Rel args (.obj C fl (.lst ds))) (hk : k ≤ j := by decide) (hg : Gl X x := by rfl)
    (hdb : (x == ("__debug__" : Str)) = false := by decide) (he : starEach (e :: es) X.env = (false, eval e X.env) :: starEach es X.env := by rfl) (hpl : (backTo pos (starEach es X.env)).any (·.1) = false := by rfl) :
    DNo X env (.Call (.Name x p) (e :: es) [] pos) C fl ds := fun H0 ps σ H E Q q => by
  obtain ⟨CX, f, fd, qs, hx, hm, kp, hb, F⟩ := c
  refine (pe_call F (hr.mono hk) hg hm kp hb .nil (hx X rfl rfl) pw_A hdb he hpl).w (ha H0 ps σ H E _ fun vs H1 s1 r1 => ?_)
  refine ⟨args, _, by rw [List.append_nil]; exact r1, h, fun v H' s2 r2 => ?_⟩
  cases r2 with
  | obj hp r3 =>
    obtain ⟨a, xs, rfl, ha, ra⟩ := R.lstI r3
    exact q _ a _ xs H' (s1.trans s2) (s1.free (cl_fresh hp fun vs z => by cases z)) (s1.free (cl_fresh ha fun vs z => by cases z)) (cl_le _ _ _ _ hp) (cl_le _ _ _ _ ha) (RA.mono (b := false) (cl_le _ _) (fun z => nomatch z) ra)
theorem dss_setObj (i : Nat) {x : Str} {p : Pos} (hN : X.N.Nodup) (h : DNo X env e C fl ds) (hi' : immA ds = true) (h2 : DSs X (env.1.set i (.fld C fl env.2.length), env.2 ++ [.lst ds]) rest P) (hi : X.N[i]? = some x := by rfl) (hx : Loc X.env.scope x := by first | exact Or.inl rfl | exact Or.inr rfl) (hs : swapsWith e (some (.Name x p)) pos.line X.env = pure false := by rfl)
    (hf : X.fn x = true ∨ X.env.scope.names.lookup x = some .local := by first | exact .inl rfl | exact .inr rfl) : DSs X env (.Assign [.Name x p] e pos :: rest) P := dss_of (ps_set hN hi hx pw_E hs hf) fun H0 ps σ H E l De ok =>
  h H0 ps σ H E _ fun y q dx xs H1 s1 hy hq hy1 hq1 ra => ⟨fun pins s I => by
    have hlen := len_set I hi
    have mu1 : ∀ r ∈ ps ++ [q], ∃ o, H1 r = some o ∧ isM o := fun r hr => by
      rcases List.mem_append.mp hr with y | y
      · obtain ⟨_, o', h2, h3⟩ := E.mu r y
        exact ⟨o', s1 _ _ h2, h3⟩
      · obtain rfl : r = q := by simpa using y
        exact ⟨_, hq1, trivial⟩
    have E1 : EnvR X.K H0 (ps ++ [q]) (env.1, env.2 ++ [.lst ds]) σ H1 := E.addOwn l s1 hq hq1 trivial ⟨xs, hq1, RA.imm (tups_ec mu1) hi' ra⟩
    have hyq : y ∉ ps ++ [q] := fun z => (List.mem_append.mp z).elim (fun z => by
      obtain ⟨_, o', h2, _⟩ := E.mu y z
      rw [hy] at h2; cases h2) fun z => by
        obtain rfl : y = q := by simpa using z
        rw [hy1] at hq1; cases hq1
    have E2 : EnvR X.K H0 (ps ++ [q]) (env.1.set i (.fld C fl env.2.length), env.2 ++ [.lst ds]) (List.set σ i (some (.ref y))) H1 := E1.put hlen ⟨y, dx, q, rfl, E.same.free hy, hy1, by rw [← l]; simp, hyq⟩
    exact (h2 H0 _ _ H1 E2 (by simp [l]) De (ok.step (Fr.app s1 hq))).run pins s I⟩
theorem EnvR.ownFld {i j : Nat} (E : EnvR K H0 ps env σ H) (h : env.1[i]? = some (.fld C fl j)) (h2 : env.2[j]? = some (.lst ds)) : ∃ p dx q xs, σ[i]? = some (some (.ref p)) ∧ H p = some (.ins C dx [(fl, .ref q)]) ∧ ps[j]? = some q ∧ H q = some (.lst xs) ∧ RA K false (er ps (cl H0 H)) xs ds := by
  obtain ⟨p, dx, q, h3, _, h4, h5, _⟩ := E.sl i _ h
  obtain ⟨p', h6, vs, h7, h8⟩ := E.ow j _ h2
  obtain rfl : p' = q := Option.some.inj (h6.symm.trans h5)
  exact ⟨p, dx, p', vs, h3, h4, h5, h7, h8⟩
theorem dm_obj (i : Nat) {x : Str} {j : Nat} (h : env.1[i]? = some (.fld C fl j)) (h2 : env.2[j]? = some (.lst ds)) (hN : X.N[i]? = some x := by rfl) (hv : Vis X.env.scope x := by first | exact Or.inl rfl | exact Or.inr (Or.inl rfl) | exact Or.inr (Or.inr rfl)) (hd : (x == ("__debug__" : Str)) = false := by decide)
    (hcd : (x == ("__classdict__" : Str)) = false := by decide) : DM X env .any (.Name x pos) (.obj C fl (.lst ds)) := fun H0 ps σ H E Q q => by
  obtain ⟨y, dx, r, xs, h3, h4, h5, h6, h7⟩ := E.ownFld h h2
  exact (pe_var hN hv hd hcd).w ⟨_, h3, q _ H (Same.refl H) (.obj h4 (.lst h6 (RA.mono (b := false) ec_le (fun z => nomatch z) h7)))⟩
theorem dss_appF (i : Nat) {j : Nat} {x : Str} {p fp apos cpos : Pos} (c : Cls X.K C) (nf : NoAttr X.K C fl) (h : DM X env m e d) (hi' : DW.imm d = true) (h2 : DSs X (env.1, env.2.set j (.lst (ds ++ [d]))) rest P) (hl : ds.length < 100000) (hs : env.1[i]? = some (.fld C fl j)) (ho : env.2[j]? = some (.lst ds)) (hN : X.N[i]? = some x := by rfl) (hv : Vis X.env.scope x := by first | exact Or.inl rfl | exact Or.inr (Or.inl rfl) | exact Or.inr (Or.inr rfl)) (hd : (x == ("__debug__" : Str)) = false := by decide)
    (hcd : (x == ("__classdict__" : Str)) = false := by decide) (hb : attributeBase (.Name x p) fl X.env (eval (.Name x p) X.env) = eval (.Name x p) X.env := by rfl) (hbase : attributeBase (.Attribute (.Name x p) fl fp) "append" X.env (eval (.Attribute (.Name x p) fl fp) X.env) = eval (.Attribute (.Name x p) fl fp) X.env := by rfl)
    (hfew : ((backTo cpos (starEach (e :: []) X.env)).all (fun x => !x.1) && (backToKw cpos (keywordEach [] X.env)).all (fun x => x.1.isSome) && decide ((e :: []).length + ([] : List Keyword).length + (if ([] : List Keyword).isEmpty then 0 else 1) < 30)) = true := by rfl)
    (hline : (apos.endLine == cpos.line) = true := by rfl) (hst : starEach (e :: []) X.env = (false, eval e X.env) :: starEach [] X.env := by rfl) (hplain : (backTo cpos (starEach [] X.env)).any (·.1) = false := by rfl)
    (hsw : swapsWith (.Call (.Attribute (.Attribute (.Name x p) fl fp) "append" apos) [e] [] cpos) none pos.line X.env = pure false := by rfl) :
    DSs X env (.Expr (.Call (.Attribute (.Attribute (.Name x p) fl fp) "append" apos) [e] [] cpos) pos :: rest) P := dss_of (ps_expr (pe_bm PySem.F.plainAttrs_list PySem.F.slot_list_append PySem.F.type_list_append mt_append (pe_fld (pe_var hN hv hd hcd) hb) (pa_cons pw_E pa_nil hst) hbase hfew hline hst hplain) hsw) fun H0 ps σ H E l De ok => by
  obtain ⟨y, dx, q, xs, h3, h3', h4, h5, h6⟩ := E.ownFld hs ho
  refine ⟨_, h3, y, C, dx, _, .ref q, rfl, h3', c, nf, by simp [List.lookup], ?_⟩
  refine ⟨.inl ⟨rfl, xs, SqL.of h5⟩, h H0 ps σ H E _ fun v H1 s1 r1 => ?_⟩
  have E1 := E.mono s1
  refine ⟨q, xs, v, rfl, rfl, s1 _ _ h5, szlt (by rw [RA.length h6]; exact hl), ⟨fun pins s I => ?_⟩⟩
  have hq : q ∈ ps := List.mem_of_getElem? h4
  have ra : RA X.K false (er ps (cl H0 H1)) (xs ++ [v]) (ds ++ [d]) := RA.snoc (RA.mono (ec_mono s1) id h6) (RM.imm E1 hi' r1)
  exact (h2 H0 ps σ _ (E1.pokeOwn h4 (o := .lst (xs ++ [v])) trivial ⟨xs ++ [v], upd_same, by rw [ec_poke hq]; exact ra⟩) (by simp [l]) De (ok.step ((Fr.of_same s1).trans (Fr.poke hq)))).run pins s I
end
end DW
set_option Elab.async false
set_option linter.all false
set_option maxRecDepth 100000
set_option maxHeartbeats 2000000
namespace DW
open PySem PySem.Spec L2 PyProof.Rows
section
variable {X : Cx}
def rSortKeys : List V → Hp → VK → Prop := fun vs H Q => ∃ (a : Addr) (kvs : List (Key × V)) (ks : List Int), vs = [.ref a] ∧ Rd H a (.dK kvs) ∧ kvs.map (·.1) = ks.map Sum.inl ∧
  ∀ (ys : List Int) (p : Addr), ys.Perm ks → ys.Pairwise (· ≤ ·) → H p = none → Q (.ref p) (upd H p (.lst (ys.map V.int)))
theorem cr_sortKeys (hc : X.calm = true) : CallR X (.builtin "sorted") rSortKeys := by
  rintro pins s σ H vs us Q I r ⟨a, kvs, ks, rfl, hd, hks, q⟩
  rw [Vals.ref1 r]
  obtain ⟨few, lo, kv2, rel, dd⟩ := dk_rd I.hok hd
  obtain ⟨ep, dat⟩ := dd.dictAt
  have kk : kv2.map (·.1) = ks.map Sum.inl := rel.keys.symm.trans hks
  have nn : kv2.length = ks.length := by simpa using congrArg List.length kk
  have few2 : kv2.length ≤ sizeLine := by rw [← rel.length]; exact few
  refine Calls.call_function_entry kind_sorted plain_sorted entry_sorted (args_sorted1 _) ?_
  unfold Builtin.«sorted»
  refine wpAny_bind (m := checkCount "sorted" 1 1 _) (wpAny_pure ?_)
  refine wpAny_bind (PySem.W.kdu_collect (A := X.A.in1) (PySem.W.kdl_dict (knd := mixKind X.prog X.w) (kvs := kv2) (ep := ep) lo) (I.ok.hd hc) dat few2 fun h2 tk got old gotIs => ?_)
  have gl : got.toList.length = ks.length := by rw [Array.length_toList, gotIs.1, nn]
  have hii : IntsAre got.toList ks := ints_each gl fun j v e => by
    obtain ⟨k, x, e1, e2⟩ := gotIs.2 j v (by rw [← Array.getElem?_toList]; exact e)
    have e3 : (kv2.map (·.1))[j]? = some k := by rw [List.getElem?_map, e1]; rfl
    rw [kk, List.getElem?_map] at e3
    obtain ⟨y, e4, rfl⟩ := Option.map_eq_some_iff.mp e3
    obtain ⟨t, ev⟩ := Value.isInt_shape (k := y) (v := v) e2
    exact ⟨y, t, e4, ev⟩
  have I1 : Inv X pins σ H { s with heap := h2, toks := tk } := I.kept old
  refine wpAny_bind (wpAny_newList ?_ (by rw [gl, ← nn]; exact few2))
  have at_ : (h2.push (seqObj "list" got.toList.toArray 0)).get? h2.objs.size = some (seqObj "list" got.toList.toArray 0) := Heap.get?_push_size _ rfl
  show wpAny _ _ _ _ _ { s with heap := h2.push (seqObj "list" got.toList.toArray 0), toks := tk }
  refine wpAny_bind (wpAny_holding (wpAny_call_entry slot_list_sort ⟨_, at_, rfl⟩ entry_list_sort
    (SrtO.list_sort_ord (s := { s with heap := h2.push (seqObj "list" got.toList.toArray 0), toks := tk }) SrtO.swo_int at_ (by rw [gl, ← nn]; exact few2) (fun two => SrtO.ints_sortable hii two) fun out o1 o2 => ⟨_, rfl, ?_⟩)
    (args_list_sort _)))
  obtain ⟨k1, k2, k3⟩ := SrtO.ints_out hii o1 o2
  obtain ⟨e2, he2⟩ := sortedHeap_at (vs := got.toList) (out := out.toArray) at_
  refine wpAny_pure ⟨_, rfl, .ref h2.objs.size, upd H h2.objs.size (.lst ((out.map SrtO.iv).map V.int)), I1.laid (t' := tk) (fun b u e => ?_) (Nat.le_refl _) (show ObjOk X.prog X.w _ _ _ (.lst ((out.map SrtO.iv).map V.int)) from
    ⟨by rw [List.length_map, k2.length_eq, ← nn]; exact few2, out, e2, vals_of_ints k1, he2⟩), rfl, q _ _ k2 k3 (I1.hok.fresh (Nat.le_refl _))⟩
  have lt := Heap.lt_size e
  rw [sortedHeap_old (Nat.ne_of_lt lt) (by rw [size_push']; exact Nat.lt_succ_of_lt lt)]
  exact Heap.get?_push_of_some _ e
def rLenSetO (w : World) : List V → Hp → VK → Prop := fun vs H Q => ∃ (p : Addr) (S : Int → Bool) (n : Nat), vs = [.ref p] ∧ H p = some (SetO w p S n) ∧ n < 2 ^ 62 ∧ ((∃ ks : List Int, ks.Nodup ∧ (∀ k, S k = true ↔ k ∈ ks) ∧ ks.length = n) → Q (.int n) H)
theorem cr_lenSetO : CallR X (.builtin "len") (rLenSetO X.w) := by
  rintro pins s σ H vs us Q I r ⟨p, S, n, rfl, hp, hn, q⟩
  rw [Vals.ref1 r]
  obtain ⟨o, es, ep, t, ho, hex, hd, _, nd, mem, _, hf, sz, _⟩ := setO_get I hp
  refine call_len_set ho hex hd hf (by rw [sz]; omega) ⟨.int n, H, I.tok _, ⟨_, by rw [sz]⟩, q ⟨es.toList.map keyOf, nd, mem, by rw [List.length_map, Array.length_toList, sz]⟩⟩
def rMinT (K : PySem.W.Frag) : List V → Hp → VK → Prop := fun vs H Q => ∃ (a : Addr) (ns : List Int), vs = [.ref a] ∧ SqT K H a (ns.map V.int) ∧ ns ≠ [] ∧ ∀ m, m ∈ ns → (∀ j ∈ ns, m ≤ j) → Q (.int m) H
theorem cr_minT (hc : X.calm = true) : CallR X (.builtin "min") (rMinT X.K) := by
  rintro pins s σ H vs us Q I r ⟨a, ns, rfl, hs, hne, q⟩
  rw [Vals.ref1 r]
  obtain ⟨its, rv, tup, few⟩ := I.tuple hs
  have hii : IntsAre its ns := by simpa using rv.ints
  have len : its.length = ns.length := hii.length
  have hlt : a < s.heap.objs.size := by obtain ⟨_, e, _⟩ := tup; exact Heap.lt_size e
  have at_ : ∀ (i : Nat) (v : Value), its.toArray[i]? = some v → ∃ t, v = .int (ns.getD i 0) t := fun i v e => by
    rw [List.getElem?_toArray] at e
    obtain ⟨y, t, e1, e2⟩ := hii.at i v e
    exact ⟨t, by rw [e1, List.getD_eq_getElem?_getD, e2]; rfl⟩
  refine call_min_walk (wpAny_pyIter_tuple tup ?_)
  refine ⟨_, _, _, _, _, _, _, rfl, Walks.tuple (A := X.A.in1) (I.ok.hd hc) s.heap.objs.size a (Nat.ne_of_lt hlt) its.toArray, ⟨⟨_, Heap.get?_push_size _ rfl, rfl, rfl⟩, tup.push _⟩, fun b hb => ?_, ?_, CmpOf.ints_lt (fun i => ns.getD i 0) at_, fun v h2 tk hP hk => ?_⟩
  · show b < (s.heap.push _).objs.size
    rw [Heap.size_push]
    have hb' : b = s.heap.objs.size ∨ b = a := by simpa using hb
    rcases hb' with rfl | rfl
    · exact Nat.lt_succ_self _
    · exact Nat.lt_succ_of_lt hlt
  · rw [List.size_toArray, len]
    exact List.length_pos_iff.mpr hne
  · obtain ⟨t, rfl⟩ := at_ _ v hP
    have hl : 0 < ns.length := List.length_pos_iff.mpr hne
    obtain ⟨b1, b2⟩ := argBest_lt (fun i => ns.getD i 0) (its.toArray.size - 1)
    have sz : its.toArray.size = ns.length := by rw [List.size_toArray, len]
    refine ⟨.int _, H, I.kept (t' := tk) fun b u e => hk b u (fun hm => ?_) (Heap.get?_push_of_some _ e), ⟨t, rfl⟩, q _ ?_ fun j hj => ?_⟩
    · have e1 : b = s.heap.objs.size := by simpa using hm
      have e2 := Heap.lt_size e
      rw [e1] at e2
      exact Nat.lt_irrefl _ e2
    · rw [List.getD_eq_getElem?_getD, List.getElem?_eq_getElem (by omega)]
      exact List.getElem_mem _
    · obtain ⟨i, hi, rfl⟩ := List.mem_iff_getElem.mp hj
      have := b2 i (by omega)
      rw [List.getD_eq_getElem?_getD (i := i), List.getElem?_eq_getElem hi] at this
      exact this
theorem pw_le_uniq : ∀ {l m : List Int}, l.Perm m → l.Pairwise (· ≤ ·) → m.Pairwise (· ≤ ·) → l = m
  | [], m, p, _, _ => by rw [p.nil_eq]
  | x :: l, [], p, _, _ => by have := p.length_eq; simp at this
  | x :: l, y :: m, p, h1, h2 => by
    rw [List.pairwise_cons] at h1 h2
    have a1 : x ≤ y := by
      rcases List.mem_cons.mp (p.mem_iff.mpr (List.mem_cons_self ..)) with e | e
      · omega
      · exact h1.1 y e
    have a2 : y ≤ x := by
      rcases List.mem_cons.mp (p.mem_iff.mp (List.mem_cons_self ..)) with e | e
      · omega
      · exact h2.1 x e
    have e : x = y := by omega
    subst e
    rw [pw_le_uniq (List.perm_cons x |>.mp p) h1.2 h2.2]
variable {env : Env} {m : Md} {e : Expr} {p p2 q pos : Pos}
theorem dm_sortKeys {kvs : List (Int × D)} {zs : List Int} (hc : X.calm = true) (ms : X.mg "sorted" = none) (h : DM X env m e (.dic kvs)) (hz : zs.Perm (kvs.map (·.1))) (ho : zs.Pairwise (· ≤ ·)) (hg : Gl X "sorted" := by rfl) (he : starEach (e :: []) X.env = (false, eval e X.env) :: starEach [] X.env := by rfl) (hpl : (backTo pos (starEach [] X.env)).any (·.1) = false := by rfl) :
    DM X env .cl (.Call (.Name "sorted" p) [e] [] pos) (iL zs) :=
  dm_callB (cr_sortKeys hc) hg ms (by decide +kernel) (da_any h da_nil he) (fun H0 ps σ H E vs rr Q q => by
    obtain ⟨v, rfl, r⟩ := RMA.one rr
    have r' := RM.any E.same r
    cases r' with
    | dic hd rk =>
      refine ⟨_, _, kvs.map (·.1), rfl, .of hd, rk.keys, fun ys c hp hs hn => ?_⟩
      obtain rfl : ys = zs := pw_le_uniq (hp.trans hz.symm) hs ho
      exact q _ _ (same_upd hn) (.lst (E.at_new hn) RA.ints)) (he := he) (hpl := hpl)
theorem dm_lenSet {ns : List Int} (hc : X.calm = true) (ml : X.mg "len" = none) (mt : X.mg "set" = none) (h : DM X env m e (iL ns)) (hl : ns.length ≤ 4000) (hg : Gl X "len" := by rfl) (hg2 : Gl X "set" := by rfl) (he : starEach (e :: []) X.env = (false, eval e X.env) :: starEach [] X.env := by rfl) (hpl : (backTo q (starEach [] X.env)).any (·.1) = false := by rfl)
    (he2 : starEach (.Call (.Name "set" p2) [e] [] q :: []) X.env = (false, eval (.Call (.Name "set" p2) [e] [] q) X.env) :: starEach [] X.env := by rfl) (hpl2 : (backTo pos (starEach [] X.env)).any (·.1) = false := by rfl) :
    DM X env .cl (.Call (.Name "len" p) [.Call (.Name "set" p2) [e] [] q] [] pos) (.int ((sortD ns).length : Nat)) := fun H0 ps σ H E Q qq =>
  (pe_callB cr_lenSetO hg ml (by decide +kernel) (pa_cons (pe_callTy (cr_setI hc) hg2 mt (by decide +kernel) (pa_cons pw_E pa_nil he) (he := he) (hpl := hpl)) pa_nil he2) (he := he2) (hpl := hpl2)).w (h H0 ps σ H E _ fun v H1 s1 r1 => by
    obtain ⟨a, rfl, hs⟩ := RM.ints r1 (E.same.trans s1)
    refine ⟨a, ns, rfl, hs, hl, fun p c hp hcn => ⟨p, _, c, rfl, upd_same, by omega, fun hk => ?_⟩⟩
    obtain ⟨ks, nd, mem, len⟩ := hk
    have nd2 : (sortD ns).Nodup := List.Pairwise.imp (fun h => Int.ne_of_lt h) (sortD_pw ns)
    have e : c = (sortD ns).length := by
      rw [← len]
      refine ((List.perm_ext_iff_of_nodup nd nd2).mpr fun k => ?_).length_eq
      rw [← mem k, mem_sortD]
      simp
    subst e
    exact qq _ _ (s1.trans (same_upd hp)) (R.int _))
theorem dm_minT {ns : List Int} {k : Int} (hc : X.calm = true) (ml : X.mg "min" = none) (h : DM X env m e (.tup (ns.map D.int))) (hk : k ∈ ns) (hle : ∀ y ∈ ns, k ≤ y) (hg : Gl X "min" := by rfl) (he : starEach (e :: []) X.env = (false, eval e X.env) :: starEach [] X.env := by rfl) (hpl : (backTo pos (starEach [] X.env)).any (·.1) = false := by rfl) :
    DM X env .cl (.Call (.Name "min" p) [e] [] pos) (.int k) :=
  dm_callB (cr_minT hc) hg ml (by decide +kernel) (da_any h da_nil he) (fun H0 ps σ H E vs rr Q q => by
    obtain ⟨v, rfl, r⟩ := RMA.one rr
    obtain ⟨c, xs, rfl, hs, ra⟩ := RM.tupI r E.same
    obtain rfl : xs = ns.map V.int := RA.ints_inv (RMA.any E.same ra)
    refine ⟨c, ns, rfl, .of hs, List.ne_nil_of_mem hk, fun m hm hy => ?_⟩
    obtain rfl : m = k := Int.le_antisymm (hy k hk) (hle m hm)
    exact q _ H (Same.refl H) (R.int _)) (he := he) (hpl := hpl)
end
end DW
set_option Elab.async false
set_option linter.all false
set_option maxRecDepth 100000
set_option maxHeartbeats 4000000
namespace DW
open PySem PySem.Spec L2 PyProof.Rows
section
variable {X : Cx}
def GeP (p q : Int × Int) : Prop := SrtO.lexB p q = false
def rSortPR (K : PySem.W.Frag) : List V → List V → Hp → VK → Prop := fun vs zs H Q => ∃ (a : Addr) (xs : List V) (k : V → Int × Int), vs = [.ref a] ∧ zs = [.bl true] ∧ SqL K H a xs ∧ (∀ x ∈ xs, ∃ t, x = .ref t ∧ H t = some (.tup [.int (k x).1, .int (k x).2])) ∧
  ∀ (ys : List V) (p : Addr), ys.Perm xs → ys.Pairwise (fun x y => GeP (k x) (k y)) → H p = none → Q (.ref p) (upd H p (.lst ys))
theorem is_pair {pins : List (Addr × Obj)} {σ : L2.St} {H : Hp} {s : Shared} (I : Inv X pins σ H s) {t : Addr} {i j : Int} (h : H t = some (.tup [.int i, .int j])) : Srt.IsPair s.heap (.ref t) i j := by
  obtain ⟨_, its, r, o, ho, hc, n, hd⟩ := I.hok _ _ h
  obtain ⟨u1, u2, rfl, ⟨t1, rfl⟩, ⟨t2, rfl⟩⟩ := vals2 r
  exact ⟨t, o, t1, t2, n, rfl, ho, hc, hd⟩
theorem desc_out {k : Value → Int × Int} {out vs : List Value} (h1 : SrtO.Srtd (fun v u => SrtO.lexB (k v) (k u)) out) (h2 : SrtO.Stb (fun v u => SrtO.lexB (k v) (k u)) out vs.reverse) : out.reverse.Perm vs ∧ out.reverse.Pairwise fun v u => GeP (k v) (k u) := by
  refine ⟨(List.reverse_perm _).trans (h2.perm.trans (List.reverse_perm _)), ?_⟩
  rw [List.pairwise_reverse]
  exact h1
theorem cr_sortPR : CallRK X (.builtin "sorted") [Str.ofString "reverse"] (rSortPR X.K) := by
  rintro pins s σ H vs zs us ws Q I r rz ⟨a, xs, k, rfl, rfl, hs, hx, q⟩
  obtain ⟨its, rv, hl, hz⟩ := I.list hs
  obtain rfl := Vals.ref1 r
  obtain ⟨w1, rfl, e1⟩ := vals1 rz
  obtain rfl : w1 = Value.bool true := e1
  obtain ⟨b1, b2⟩ := refs_back rv fun x m => by
    obtain ⟨t, e, _⟩ := hx x m
    exact ⟨t, e⟩
  have hz2 : its.length ≤ sizeLine := by rw [← rv.length]; exact hz
  have hp : ∀ v ∈ its, Srt.IsPair s.heap v (k (backV v)).1 (k (backV v)).2 := fun v hv => by
    obtain ⟨t, rfl⟩ := b2 v hv
    have hm : V.ref t ∈ xs := by rw [b1]; exact List.mem_map.mpr ⟨_, hv, rfl⟩
    obtain ⟨t', e, ht⟩ := hx _ hm
    cases e
    exact is_pair I ht
  refine SrtR.sorted_ordK (b := true) (ltv := fun v u => SrtO.lexB (k (backV v)) (k (backV u))) (fun _ => rfl) (args_sorted_rev _ _) (fun _ => args_list_sort_rev _ _) (SrtO.swo_lex fun v => k (backV v)) hl.isList hz2 (fun two h₁ c hc kk => ?_) fun out o1 o2 => ?_
  · refine SrtO.pairs_sortableO (s := { s with heap := h₁ }) (k := fun v => k (backV v)) (by omega) (fun v hm => (hp v hm).keeps fun b o e _ => (kk b o e).2) fun o e => ?_
    have e' : some o = some (seqObj "list" its.toArray 0) := e.symm.trans hc
    cases e'
    exact fun c => absurd (Value.type.inj c) (by decide)
  · obtain ⟨d1, d2⟩ := desc_out (k := fun v => k (backV v)) o1 o2
    obtain ⟨ep, he⟩ := sortedAll_at s.heap its (if true = true then out.toArray.reverse else out.toArray)
    have e0 : (if true = true then out.toArray.reverse else out.toArray) = out.reverse.toArray := by simp
    rw [e0] at he ⊢
    have h3 : ∀ u ∈ out.reverse, ∃ a, u = Value.ref a := fun u hu => b2 u (d1.mem_iff.mp hu)
    have pm : (out.reverse.map backV).Perm xs := by rw [b1]; exact d1.map _
    refine ⟨.ref _, upd H (s.heap.objs.size + 1) (.lst (out.reverse.map backV)), I.laid (t' := s.toks) (fun _ _ => sortedAll_old) (Nat.le_succ _) ⟨by rw [pm.length_eq]; exact hz, out.reverse, ep, vals_back h3, he⟩, rfl, q _ _ pm ?_ (I.hok.fresh (Nat.le_succ _))⟩
    exact List.pairwise_map.mpr d2
def rItemsI : V → List V → Hp → VK → Prop := fun x xs H Q => ∃ (a : Addr) (kvs : List (Key × V)), x = .ref a ∧ xs = [] ∧ H a = some (.dK kvs) ∧ ∀ p, H p = none → Q (.ref p) (upd H p (L2.DX.itemsO p a))
theorem mt_itemsI : MtR X "dict.items" rItemsI := by
  rintro pins s σ H x xs v us Q I rx rxs ⟨a, kvs, rfl, rfl, ha, q⟩
  cases rx
  cases rxs
  obtain ⟨hz, hs0, vs, kv, hdo⟩ := I.hok a _ ha
  refine call_meetsIn F.slot_dict_items hdo.typeIs F.entry_dict_items (F.args_dict_items_1 _) (meets_dict_items (mixKind X.prog X.w) a hs0) ⟨⟨vs, hdo⟩, ?_⟩
  exact ⟨.ref s.heap.objs.size, upd H s.heap.objs.size (L2.DX.itemsO s.heap.objs.size a), I.laid (t' := s.toks) (fun b u e => Heap.get?_push_of_some _ e) (Nat.le_refl _) (L2.DX.itemsO_ok (Heap.get?_push_size _ rfl)), rfl, q _ (I.hok.fresh (Nat.le_refl _))⟩
def kvV (qs : List (Int × Int)) : List (Key × V) := qs.map fun q => (.inl q.1, .int q.2)
def kv0 (kt : Addr → Int × Int) : Value → Int × Int
  | .ref t => kt t
  | _ => (0, 0)
def rSortIR : List V → List V → Hp → VK → Prop := fun vs zs H Q => ∃ (p a : Addr) (qs : List (Int × Int)), vs = [.ref p] ∧ zs = [.bl true] ∧ H p = some (L2.DX.itemsO p a) ∧ H a = some (.dK (kvV qs)) ∧
  ∀ (H' : Hp) (l : Addr) (ts : List Addr) (k : Addr → Int × Int), (∀ b o, H b = some o → H' b = some o) → H l = none → H' l = some (.lst (ts.map V.ref)) → (∀ t ∈ ts, H' t = some (.tup [.int (k t).1, .int (k t).2])) → (ts.map k).Perm qs → (ts.map k).Pairwise GeP → Q (.ref l) H'
theorem cr_sortIR (hc : X.calm = true) : CallRK X (.builtin "sorted") [Str.ofString "reverse"] rSortIR := by
  rintro pins s σ H vs zs us ws Q I r rz ⟨p, a, qs, rfl, rfl, hp, ha, q⟩
  obtain rfl := Vals.ref1 r
  obtain ⟨w1, rfl, e1⟩ := vals1 rz
  obtain rfl : w1 = Value.bool true := e1
  have view : s.heap.IsItemsView p a := (show ObjOk X.prog X.w H s.heap p (L2.DX.itemsO p a) from I.hok p _ hp).1
  obtain ⟨hz, hs0, kv2, kv, hdo⟩ := I.hok a _ ha
  obtain ⟨ep, ob, es, ho, hex, hdat, hko, hpr, hnd⟩ := hdo.dictAt
  have lk : (kvV qs).length = kv2.length := Paired.length kv
  have lq : (kvV qs).length = qs.length := List.length_map ..
  refine call_function_entry_kw kind_sorted plain_sorted entry_sorted (args_sorted_rev _ _) ?_
  unfold Builtin.«sorted»
  refine wpAny_bind (m := checkCount "sorted" 1 1 _) (wpAny_pure ?_)
  have les : es.size = kv2.length := by rw [← Array.length_toList]; exact hpr.length
  refine wpAny_bind (DT.collectI (A := X.A.in1) (es := es) (ep := ep) (I.ok.hd hc) view ⟨ob, ho, hex, hdat⟩ (by omega) fun h2 tk as old lt2 las made => ?_)
  have las' : as.length = qs.length := by omega
  have nd : as.Nodup := List.Pairwise.imp (fun h => Nat.ne_of_lt h) made.rise
  obtain ⟨kt, hkt⟩ : ∃ kt : Addr → Int × Int, ∀ (j : Nat) (t : Addr), as[j]? = some t → qs[j]? = some (kt t) := by
    refine ⟨fun t => qs.getD (as.idxOf t) (0, 0), fun j t hj => ?_⟩
    obtain ⟨hj1, rfl⟩ := List.getElem?_eq_some_iff.mp hj
    have e : as.idxOf as[j] = j := nd.idxOf_getElem j hj1
    show qs[j]? = some (qs.getD (as.idxOf as[j]) (0, 0))
    rw [e, List.getD_eq_getElem?_getD, List.getElem?_eq_getElem (by omega)]; rfl
  have maps : as.map kt = qs := by
    apply List.ext_getElem?
    intro j
    rw [List.getElem?_map]
    cases e : as[j]? with
    | none =>
      have := List.getElem?_eq_none_iff.mp e
      rw [List.getElem?_eq_none (by omega)]; rfl
    | some t => rw [hkt j t e]; rfl
  have pr : ∀ t ∈ as, Srt.IsPair h2 (.ref t) (kt t).1 (kt t).2 := fun t ht => by
    obtain ⟨j, hj⟩ := List.mem_iff_getElem?.mp ht
    obtain ⟨en, f1, f3⟩ := made.pairs j t hj
    have e2 : (kvV qs)[j]? = some (.inl (kt t).1, .int (kt t).2) := by
      unfold kvV
      rw [List.getElem?_map, hkt j t hj]; rfl
    obtain ⟨⟨y1, y2⟩, g1, g2, g3⟩ := LiI.paired_get kv e2
    obtain ⟨tx, g3'⟩ := g3
    have g2' : Sum.inl (kt t).1 = y1 := g2
    have g3'' : y2 = Value.int (kt t).2 tx := g3'
    subst g2' g3''
    obtain ⟨z1, z2⟩ := hpr.get? (by rw [Array.getElem?_toList]; exact f1) g1
    obtain ⟨tk2, z3⟩ := Value.isInt_shape (k := (kt t).1) (v := en.key) z1
    rw [z2, z3] at f3
    exact ⟨t, _, tk2, tx, _, rfl, f3, rfl, rfl⟩
  have lvs : (as.map Value.ref).length ≤ sizeLine := by rw [List.length_map]; omega
  refine wpAny_bind (wpAny_newList ?_ lvs)
  have at_ : (h2.push (seqObj "list" (as.map Value.ref).toArray 0)).get? h2.objs.size = some (seqObj "list" (as.map Value.ref).toArray 0) := Heap.get?_push_size _ rfl
  show wpAny _ _ _ _ _ { s with heap := h2.push (seqObj "list" (as.map Value.ref).toArray 0), toks := tk }
  have pv : ∀ v ∈ as.map Value.ref, Srt.IsPair (h2.push (seqObj "list" (as.map Value.ref).toArray 0)) v (kv0 kt v).1 (kv0 kt v).2 := fun v hv => by
    obtain ⟨t, ht, rfl⟩ := List.mem_map.mp hv
    exact (pr t ht).keeps fun b o e _ => Heap.get?_push_of_some _ e
  refine wpAny_bind (wpAny_holding (wpAny_call_entry_kw slot_list_sort ⟨_, at_, rfl⟩ entry_list_sort (SrtR.list_sort_ordR (s := { s with heap := h2.push (seqObj "list" (as.map Value.ref).toArray 0), toks := tk }) (b := true) (SrtO.swo_lex (kv0 kt)) at_ lvs (fun two => SrtO.pairs_sortableO (by omega) pv fun o e => ?_) fun out o1 o2 => ⟨_, rfl, ?_⟩) (args_list_sort_rev _ _)))
  · have e' : some o = some (seqObj "list" (as.map Value.ref).toArray 0) := e.symm.trans at_
    cases e'
    exact fun c => absurd (Value.type.inj c) (by decide)
  obtain ⟨d1, d2⟩ := desc_out (k := kv0 kt) o1 o2
  have e0 : (if true = true then out.toArray.reverse else out.toArray) = out.reverse.toArray := by simp
  rw [e0]
  obtain ⟨ep2, he⟩ := sortedHeap_at (vs := as.map Value.ref) (out := out.reverse.toArray) at_
  generalize hF : sortedHeap (h2.push (seqObj "list" (as.map Value.ref).toArray 0)) h2.objs.size (as.map Value.ref) out.reverse.toArray = hf at he
  have kp : ∀ b o, h2.get? b = some o → hf.get? b = some o := fun b o e => by
    have lt := Heap.lt_size e
    rw [← hF, sortedHeap_old (Nat.ne_of_lt lt) (by rw [size_push']; exact Nat.lt_succ_of_lt lt)]
    exact Heap.get?_push_of_some _ e
  obtain ⟨ts, hts⟩ : ∃ ts : List Addr, out.reverse = ts.map Value.ref := by
    refine ⟨out.reverse.map fun v => (match v with | .ref a => a | _ => 0), ?_⟩
    rw [List.map_map]
    conv => lhs; rw [← List.map_id' out.reverse]
    refine List.map_congr_left fun v hv => ?_
    obtain ⟨t, _, rfl⟩ := List.mem_map.mp (d1.mem_iff.mp hv)
    rfl
  rw [hts] at d1 d2 he
  have pts : ts.Perm as := by
    have z := d1.map fun v => (match v with | .ref a => a | _ => (0 : Addr))
    rw [List.map_map, List.map_map] at z
    have i1 : ∀ l : List Addr, l.map ((fun v => (match v with | .ref a => a | _ => (0 : Addr))) ∘ Value.ref) = l := fun l => List.map_id' l
    rwa [i1, i1] at z
  have Lnew : s.heap.objs.size ≤ h2.objs.size := Nat.le_of_lt lt2
  have nL : H h2.objs.size = none := I.hok.fresh Lnew
  have asL : ∀ t ∈ as, t < h2.objs.size := fun t ht => made.there ht
  have I1 : Inv X pins σ (upd H h2.objs.size (.lst (ts.map V.ref))) { s with heap := hf, toks := tk } := I.laid (t' := tk) (fun b o e => kp b o (old b o e)) Lnew
    (show ObjOk X.prog X.w _ _ _ (.lst (ts.map V.ref)) from ⟨by rw [List.length_map, pts.length_eq]; omega, ts.map Value.ref, ep2, LiI.vals_refs ts, he⟩)
  obtain ⟨H2, I2, up2, at2⟩ := L2.DX.takeT (h' := hf) (tk := tk) (P := fun t vs => vs = [V.int (kt t).1, V.int (kt t).2]) I as _ I1 nd fun t ht => by
    have ab := made.above t ht
    refine ⟨Nat.le_of_lt ab, by rw [upd_ne (Nat.ne_of_lt (asL t ht))]; exact I.hok.fresh (Nat.le_of_lt ab), _, rfl, fun G => ?_⟩
    obtain ⟨c, o, t1, t2, n, ec, ho, hcl, hd⟩ := pr t ht
    cases ec
    exact ⟨by show 2 ≤ sizeLine; decide, [.int (kt t).1 t1, .int (kt t).2 t2], .cons ⟨t1, rfl⟩ (.cons ⟨t2, rfl⟩ .nil), o, kp _ _ ho, hcl, n, hd⟩
  have mapk : ts.map kt = (ts.map Value.ref).map (kv0 kt) := by rw [List.map_map]; rfl
  refine wpAny_pure ⟨_, rfl, ?_⟩
  show EP X pins σ Q (.ref h2.objs.size) { s with heap := hf, toks := tk }
  refine ⟨.ref h2.objs.size, H2, I2, rfl, q H2 _ ts kt (fun b o e => up2 b o (by rw [upd_ne (ne_of_none e nL)]; exact e)) nL (up2 _ _ upd_same) (fun t ht => ?_) ?_ ?_⟩
  · obtain ⟨vs, e1, e2⟩ := at2 t (pts.mem_iff.mp ht)
    rw [e2, e1]
  · rw [← maps]
    exact pts.map kt
  · rw [mapk]
    exact List.pairwise_map.mpr d2
end
end DW
set_option Elab.async false
set_option linter.all false
set_option maxRecDepth 100000
set_option maxHeartbeats 4000000
namespace DW
open PySem PySem.Spec L2
theorem geP_iff {p q : Int × Int} : GeP p q ↔ q.1 < p.1 ∨ (p.1 = q.1 ∧ q.2 ≤ p.2) := by
  unfold GeP
  constructor
  · intro h
    have : ¬ (p.1 < q.1 ∨ (p.1 = q.1 ∧ p.2 < q.2)) := fun z => by
      rw [SrtO.lexB_iff.mpr z] at h; cases h
    omega
  · intro h
    cases e : SrtO.lexB p q with
    | false => rfl
    | true =>
      have := SrtO.lexB_iff.mp e
      omega
theorem geP_uniq : ∀ {l m : List (Int × Int)}, l.Perm m → l.Pairwise GeP → m.Pairwise GeP → l = m
  | [], m, p, _, _ => by rw [p.nil_eq]
  | x :: l, [], p, _, _ => by have := p.length_eq; simp at this
  | x :: l, y :: m, p, h1, h2 => by
    rw [List.pairwise_cons] at h1 h2
    have a1 : x = y ∨ GeP y x := by
      rcases List.mem_cons.mp (p.mem_iff.mp (List.mem_cons_self ..)) with e | e
      · exact .inl e
      · exact .inr (h2.1 x e)
    have a2 : x = y ∨ GeP x y := by
      rcases List.mem_cons.mp (p.mem_iff.mpr (List.mem_cons_self ..)) with e | e
      · exact .inl e.symm
      · exact .inr (h1.1 y e)
    have e : x = y := by
      rcases a1 with e | e
      · exact e
      · rcases a2 with e' | e'
        · exact e'
        · rw [geP_iff] at e e'
          exact Prod.ext (by omega) (by omega)
    subst e
    rw [geP_uniq (List.perm_cons x |>.mp p) h1.2 h2.2]
def kH (H : Hp) : V → Int × Int
  | .ref t => match H t with
    | some (.tup [.int i, .int j]) => (i, j)
    | _ => (0, 0)
  | _ => (0, 0)
theorem kH_at {H : Hp} {t : Addr} {i j : Int} (h : H t = some (.tup [.int i, .int j])) : kH H (.ref t) = (i, j) := by
  unfold kH
  simp only [h]
theorem R.pairI {K : PySem.W.Frag} {b : Bool} {H : Hp} {v : V} {p : Int × Int} (r : R K b H v (pD p)) : ∃ t, v = .ref t ∧ H t = some (.tup [.int p.1, .int p.2]) := by
  obtain ⟨t, xs, rfl, h, ra⟩ := R.tupI (ds := [.int p.1, .int p.2]) r
  cases ra with
  | cons r1 ra =>
    cases ra with
    | cons r2 ra =>
      cases ra
      rw [R.intI r1, R.intI r2] at h
      exact ⟨t, rfl, h⟩
theorem RA.pairs {K : PySem.W.Frag} {b : Bool} {H : Hp} : ∀ {as : List (Int × Int)} {xs : List V}, RA K b H xs (as.map pD) → (∀ x ∈ xs, ∃ t, x = .ref t ∧ H t = some (.tup [.int (kH H x).1, .int (kH H x).2])) ∧ xs.map (kH H) = as
  | [], _, .nil => ⟨(fun x hx => by cases hx), rfl⟩
  | p :: as, _, .cons r ra => by
    obtain ⟨t, rfl, h⟩ := R.pairI r
    obtain ⟨i1, i2⟩ := RA.pairs ra
    have e := kH_at h
    refine ⟨fun x hx => ?_, by rw [List.map_cons, i2]; exact congrArg (· :: as) e⟩
    rcases List.mem_cons.mp hx with rfl | hx
    · exact ⟨t, rfl, by rw [e]; exact h⟩
    · exact i1 x hx
theorem RA.of_pairs {K : PySem.W.Frag} {b : Bool} {H G : Hp} (tp : Tups H G) {k : V → Int × Int} : ∀ {xs : List V}, (∀ x ∈ xs, ∃ t, x = .ref t ∧ H t = some (.tup [.int (k x).1, .int (k x).2])) → RA K b G xs ((xs.map k).map pD)
  | [], _ => .nil
  | x :: xs, h => by
    obtain ⟨t, e, ht⟩ := h x (List.mem_cons_self ..)
    refine .cons ?_ (RA.of_pairs tp fun y hy => h y (List.mem_cons_of_mem _ hy))
    rw [e]
    rw [e] at ht
    exact .tup (tp _ _ ht) (.cons (.int _) (.cons (.int _) .nil))
section
variable {X : Cx} {env : Env} {m ma mb : Md} {a b e : Expr} {da db d : D} {pos p p2 q kp kp2 : Pos} {kk : Nat}
theorem dm_sortPR {as bs : List (Int × Int)} {apos : Pos} (ms : X.mg "sorted" = none) (h : DM X env m e (pL as)) (hp : bs.Perm as) (ho : bs.Pairwise GeP) (hg : Gl X "sorted" := by rfl)
    (hes : starEach (e :: []) X.env = (false, eval e X.env) :: starEach [] X.env := by rfl) (he : backTo pos (starEach (e :: []) X.env) = (false, eval e X.env) :: backTo pos (starEach [] X.env) := by rfl) (hpl : (backTo pos (starEach (e :: []) X.env)).any (·.1) = false := by rfl)
    (hall : (backToKw pos (keywordEach [⟨some "reverse", .Constant (.bool true) kk kp, kp2⟩] X.env)).all (·.1.isSome) = true := by rfl) (hnone : (backToKw pos (keywordEach [⟨some "reverse", .Constant (.bool true) kk kp, kp2⟩] X.env)).any (·.1.isNone) = false := by rfl) (hks : (backToKw pos (keywordEach [⟨some "reverse", .Constant (.bool true) kk kp, kp2⟩] X.env)).filterMap (·.1) = [Str.ofString "reverse"] := by rfl) :
    DM X env .cl (.Call (.Name "sorted" p) [e] [⟨some "reverse", .Constant (.bool true) kk kp, kp2⟩] pos) (pL bs) := fun H0 ps σ H E Q qq =>
  (pe_callBK cr_sortPR hg ms (by decide +kernel) (pa_cons pw_E pa_nil hes) (pk_cons pe_bl pk_nil) (he := he) (hpl := hpl) (hall := hall) (hnone := hnone) (hks := hks)).w (h H0 ps σ H E _ fun v H1 s1 r1 => by
    have E1 := E.mono s1
    obtain ⟨c, xs, rfl, hs, ra⟩ := RM.seq r1 E1.same
    obtain ⟨k1, k2⟩ := RA.pairs ra
    refine ⟨c, xs, kH H1, rfl, rfl, hs, k1, fun ys l py oy hl => ?_⟩
    have e2 : ys.map (kH H1) = bs := geP_uniq ((py.map _).trans (by rw [k2]; exact hp.symm)) (List.pairwise_map.mpr oy) ho
    subst e2
    have s2 : Same H1 (upd H1 l (.lst ys)) := same_upd hl
    refine qq _ _ (s1.trans s2) (.lst (E1.at_new hl) (RA.of_pairs (H := H1) (fun t zs ht => ec_mono (H0 := H0) (ps := ps) s2 _ _ (tups_ec (fun r hr => (E1.mu r hr).2) t zs ht)) fun x hx => k1 x (py.mem_iff.mp hx)))
    )
theorem rk_ints {K : PySem.W.Frag} {b : Bool} {H : Hp} : ∀ {qs : List (Int × Int)} {kvs : List (Key × V)}, RK K b H kvs (qs.map fun q => (q.1, D.int q.2)) → kvs = kvV qs
  | [], _, .nil => rfl
  | q :: qs, _, .cons r rk => by
    rw [R.intI r, rk_ints rk]; rfl
theorem dm_sortIR {qs bs : List (Int × Int)} {apos cpos : Pos} (hc : X.calm = true) (ms : X.mg "sorted" = none) (h : DM X env m e (.dic (qs.map fun q => (q.1, D.int q.2)))) (hp : bs.Perm qs) (ho : bs.Pairwise GeP) (hg : Gl X "sorted" := by rfl)
    (hbase : attributeBase e "items" X.env (eval e X.env) = eval e X.env := by rfl) (hline : (apos.endLine == cpos.line) = true := by rfl)
    (hes : starEach (.Call (.Attribute e "items" apos) [] [] cpos :: []) X.env = (false, eval (.Call (.Attribute e "items" apos) [] [] cpos) X.env) :: starEach [] X.env := by rfl) (he : backTo pos (starEach (.Call (.Attribute e "items" apos) [] [] cpos :: []) X.env) = (false, eval (.Call (.Attribute e "items" apos) [] [] cpos) X.env) :: backTo pos (starEach [] X.env) := by rfl) (hpl : (backTo pos (starEach (.Call (.Attribute e "items" apos) [] [] cpos :: []) X.env)).any (·.1) = false := by rfl)
    (hall : (backToKw pos (keywordEach [⟨some "reverse", .Constant (.bool true) kk kp, kp2⟩] X.env)).all (·.1.isSome) = true := by rfl) (hnone : (backToKw pos (keywordEach [⟨some "reverse", .Constant (.bool true) kk kp, kp2⟩] X.env)).any (·.1.isNone) = false := by rfl) (hks : (backToKw pos (keywordEach [⟨some "reverse", .Constant (.bool true) kk kp, kp2⟩] X.env)).filterMap (·.1) = [Str.ofString "reverse"] := by rfl) :
    DM X env .cl (.Call (.Name "sorted" p) [.Call (.Attribute e "items" apos) [] [] cpos] [⟨some "reverse", .Constant (.bool true) kk kp, kp2⟩] pos) (pL bs) := fun H0 ps σ H E Q qq =>
  (pe_callBK (cr_sortIR hc) hg ms (by decide +kernel) (pa_cons (pe_bm0 PySem.F.plainAttrs_dict PySem.F.slot_dict_items PySem.F.type_dict_items mt_itemsI pw_E hbase hline) pa_nil hes) (pk_cons pe_bl pk_nil) (he := he) (hpl := hpl) (hall := hall) (hnone := hnone) (hks := hks)).w (h H0 ps σ H E _ fun v H1 s1 r1 => by
    have E1 := E.mono s1
    have r2 := RM.any E1.same r1
    cases r2 with
    | dic hd rk =>
      rename_i d kvs
      obtain rfl := rk_ints rk
      refine ⟨?_, d, _, rfl, rfl, hd, fun l hl => ⟨l, d, qs, rfl, rfl, upd_same, by rw [upd_ne (ne_of_none hd hl)]; exact hd, fun H' c ts k up hc' hc2 hts pts ots => ?_⟩⟩
      · exact .inr (.inr (.inl ⟨rfl, .inl ⟨_, hd⟩⟩))
      have e2 : ts.map k = bs := geP_uniq (pts.trans hp.symm) ots ho
      subst e2
      have s2 : Same H1 H' := fun t o ht => up t o (by rw [upd_ne (ne_of_none ht hl)]; exact ht)
      have c0 : H1 c = none := by
        cases z : H1 c with
        | none => rfl
        | some u =>
          rw [upd_ne (ne_of_none z hl), z] at hc'
          cases hc'
      have E2 := E1.mono s2
      refine qq _ _ (s1.trans s2) (.lst (xs := ts.map V.ref) ?_ ?_)
      · unfold er
        rw [if_neg (nin_ps E1 c0)]
        exact cl_new (E1.same.free c0) hc2
      · have z : (ts.map V.ref).map (kH H') = ts.map k := by
          rw [List.map_map]
          exact List.map_congr_left fun t ht => kH_at (hts t ht)
        rw [← z]
        refine RA.of_pairs (H := H') (tups_ec fun r hr => (E2.mu r hr).2) fun x hx => ?_
        obtain ⟨t, ht, rfl⟩ := List.mem_map.mp hx
        exact ⟨t, rfl, by rw [kH_at (hts t ht)]; exact hts t ht⟩)
end
end DW
set_option Elab.async false
set_option linter.all false
set_option maxRecDepth 100000
set_option maxHeartbeats 4000000
namespace DW
open PySem PySem.Spec L2 PyProof.Rows
theorem mxd_args (a d : Value) : argsOk "max" ⟨[a], [(Str.ofString "default", d)]⟩ := by unfold argsOk; kernel_rfl
theorem mxd_bind (d : Value) : Builtin.Builtins.bindParams "max" ["key", "default"] 0 ⟨[], [(Str.ofString "default", d)]⟩ = pure [none, some d] := by first | rfl | kernel_rfl
theorem mxd_nm : (toString "max" ++ toString ".loop" : String) = "max.loop" := by decide
section
variable {prog : Program} {w : World} {A : Around} {R : Result → Shared → Prop} {it bx : Addr} {fp wr : List Addr} {cnt : Nat} {P : Nat → Value → Prop} {St : Nat → Heap → Prop} {d : Value} {gt : Nat → Nat → Bool}
theorem mxd_turns (W : Walks prog w A.in1 it fp wr cnt P St) (hgt : CmpOf prog w A.in1 .Gt P gt) (hb : bx ∉ fp) : ∀ (left j : Nat) (s : Shared) (top : Value) (c : Nat), cnt - (j + 1) = left → j + 1 ≤ cnt → St (j + 1) s.heap → P (argBest gt j) top →
    s.heap.get? bx = some { cls := .type "list", dict := none, data := .seq #[top, top] c, slots := #[] } →
    (∀ v h2 tk, P (argBest gt (cnt - 1)) v → (∀ b o, b ∉ wr → b ≠ bx → s.heap.get? b = some o → h2.get? b = some o) → R (.ok (.ret v)) { s with heap := h2, toks := tk }) →
    codeAny (model prog w) A (.builtin "max.loop" ⟨[.ref it, .none, .ref bx], [("default", d)]⟩) R s := by
  have hbw : bx ∉ wr := fun z => hb (W.sub _ z)
  intro left
  induction left with
  | zero =>
    intro j s top c e0 le0 st pt at0 out
    have last : j + 1 = cnt := by omega
    refine codeAny_builtin F.entry_max_loop ?_
    rw [Around.under_plainId F.plain_max_loop _]
    show wpAny _ A.in1 (seqItems? (.ref bx) >>= _) _ _ s
    refine wpAny_bind (wpAny_seqItems at0 rfl ?_)
    show wpAny _ A.in1 (tryCatch (pyNext (.ref it)) _ >>= _) _ _ s
    refine wpAny_bind (wpAny_tryCatch (W.done s _ _ (last ▸ st) fun h2 tk keep => ?_))
    show wpAny _ A.in1 (updateSeq bx (fun _ => #[]) >>= _) _ _ _
    refine wpAny_bind (wpAny_updateSeq (keep bx _ hbw at0) rfl (wpAny_bind (wpAny_letGo (wpAny_pure ?_))))
    exact out top _ tk (by rw [← last]; exact pt) fun b o n1 n2 e => (Heap.get?_update_other _ _ (Ne.symm n2)).trans (keep b o n1 e)
  | succ left ih =>
    intro j s top c e0 le0 st pt at0 out
    have more : j + 1 < cnt := by omega
    refine codeAny_builtin F.entry_max_loop ?_
    rw [Around.under_plainId F.plain_max_loop _]
    show wpAny _ A.in1 (seqItems? (.ref bx) >>= _) _ _ s
    refine wpAny_bind (wpAny_seqItems at0 rfl ?_)
    show wpAny _ A.in1 (tryCatch (pyNext (.ref it)) _ >>= _) _ _ s
    refine wpAny_bind (wpAny_tryCatch (W.item (j + 1) s _ _ more st fun v h2 tk pv st2 keep => ?_))
    have at2 := keep bx _ hbw at0
    show wpAny _ A.in1 (tryCatch (holding [v, v] (richCompare .Gt v top >>= _)) _ >>= _) _ _ _
    refine wpAny_bind (wpAny_tryCatch (wpAny_holding (wpAny_bind (hgt (j + 1) (argBest gt j) v top _ _ _ pv pt ?_))))
    refine wpAny_bind (wpAny_holding (wpAny_truthy_bool ?_))
    refine wpAny_bind (wpAny_letGo (wpAny_pure ?_))
    cases better : gt (j + 1) (argBest gt j) with
    | true =>
      simp only [if_true]
      refine wpAny_bind (wpAny_updateSeq at2 rfl (wpAny_bind (wpAny_letGo ?_)))
      rw [mxd_nm]
      refine wpAny_pure ⟨plainId_quiet F.plain_max_loop _, ih (j + 1) _ v _ (by omega) more (W.frame _ _ _ st2 fun b bf o e => ?_) (by simp only [argBest, better, if_true]; exact pv) (Heap.get?_update_self _ at2 rfl) fun v2 h3 tk3 pv2 keep2 => ?_⟩
      · exact (Heap.get?_update_other _ _ (fun z : bx = b => hb (by rw [z]; exact bf))).trans e
      · exact out v2 h3 tk3 pv2 fun b o n1 n2 e => keep2 b o n1 n2 ((Heap.get?_update_other _ _ (Ne.symm n2)).trans (keep b o n1 e))
    | false =>
      simp only [Bool.false_eq_true, if_false]
      refine wpAny_bind (wpAny_letGo ?_)
      rw [mxd_nm]
      refine wpAny_pure ⟨plainId_quiet F.plain_max_loop _, ih (j + 1) _ top c (by omega) more st2 (by simp only [argBest, better, Bool.false_eq_true, if_false]; exact pt) at2 fun v2 h3 tk3 pv2 keep2 => ?_⟩
      exact out v2 h3 tk3 pv2 fun b o n1 n2 e => keep2 b o n1 n2 (keep b o n1 e)
theorem mxd_first (W : Walks prog w A.in1 it fp wr cnt P St) (hgt : CmpOf prog w A.in1 .Gt P gt) (hb : bx ∉ fp) (s : Shared) {c : Nat} (st : St 0 s.heap) (at0 : s.heap.get? bx = some { cls := .type "list", dict := none, data := .seq #[] c, slots := #[] })
    (out : ∀ v h2 tk, 0 < cnt → P (argBest gt (cnt - 1)) v → (∀ b o, b ∉ wr → b ≠ bx → s.heap.get? b = some o → h2.get? b = some o) → R (.ok (.ret v)) { s with heap := h2, toks := tk })
    (none_ : ∀ h2 tk, cnt = 0 → (∀ b o, b ∉ wr → b ≠ bx → s.heap.get? b = some o → h2.get? b = some o) → R (.ok (.ret d)) { s with heap := h2, toks := tk }) :
    codeAny (model prog w) A (.builtin "max.loop" ⟨[.ref it, .none, .ref bx], [("default", d)]⟩) R s := by
  have hbw : bx ∉ wr := fun z => hb (W.sub _ z)
  refine codeAny_builtin F.entry_max_loop ?_
  rw [Around.under_plainId F.plain_max_loop _]
  show wpAny _ A.in1 (seqItems? (.ref bx) >>= _) _ _ s
  refine wpAny_bind (wpAny_seqItems at0 rfl ?_)
  show wpAny _ A.in1 (tryCatch (pyNext (.ref it)) _ >>= _) _ _ s
  by_cases z : cnt = 0
  · refine wpAny_bind (wpAny_tryCatch (W.done s _ _ (z ▸ st) fun h2 tk keep => ?_))
    refine wpAny_bind (wpAny_rule ?_)
    exact wpAny_pure (none_ h2 tk z fun b o n1 n2 e => keep b o n1 e)
  · have pos : 0 < cnt := by omega
    refine wpAny_bind (wpAny_tryCatch (W.item 0 s _ _ pos st fun v h2 tk pv st2 keep => ?_))
    have at2 := keep bx _ hbw at0
    show wpAny _ A.in1 (updateSeq bx (fun _ => #[v, v]) >>= _) _ _ _
    refine wpAny_bind (wpAny_updateSeq at2 rfl ?_)
    rw [mxd_nm]
    refine wpAny_pure ⟨plainId_quiet F.plain_max_loop _, mxd_turns W hgt hb _ 0 _ v _ rfl pos (W.frame _ _ _ st2 fun b bf o e => ?_) pv (Heap.get?_update_self _ at2 rfl) fun v2 h3 tk3 pv2 keep2 => ?_⟩
    · exact (Heap.get?_update_other _ _ (fun z : bx = b => hb (by rw [z]; exact bf))).trans e
    · exact out v2 h3 tk3 pos pv2 fun b o n1 n2 e => keep2 b o n1 n2 ((Heap.get?_update_other _ _ (Ne.symm n2)).trans (keep b o n1 e))
end
section
variable {X : Cx}
def rMaxD (K : PySem.W.Frag) : List V → List V → Hp → VK → Prop := fun vs zs H Q => ∃ (a : Addr) (ns : List Int) (d : Int), vs = [.ref a] ∧ zs = [.int d] ∧ SqL K H a (ns.map V.int) ∧ (ns = [] → Q (.int d) H) ∧ ∀ m, m ∈ ns → (∀ j ∈ ns, j ≤ m) → Q (.int m) H
theorem cr_maxD (hc : X.calm = true) : CallRK X (.builtin "max") [Str.ofString "default"] (rMaxD X.K) := by
  rintro pins s σ H vs zs us ws Q I r rz ⟨a, ns, d, rfl, rfl, hs, q0, q⟩
  obtain rfl := Vals.ref1 r
  obtain ⟨w1, rfl, ⟨td, rfl⟩⟩ := vals1 rz
  obtain ⟨its, rv, pl, few⟩ := I.list hs
  have hii : IntsAre its ns := by simpa using rv.ints
  have len : its.length = ns.length := hii.length
  have at_ : ∀ (i : Nat) (v : Value), its.toArray[i]? = some v → ∃ t, v = .int (ns.getD i 0) t := fun i v e => by
    rw [List.getElem?_toArray] at e
    obtain ⟨y, t, e1, e2⟩ := hii.at i v e
    exact ⟨t, by rw [e1, List.getD_eq_getElem?_getD, e2]; rfl⟩
  refine wpAny_call (codeAny_call_builtin F.plain_max F.entry_max ?_)
  have body : wpAny (model X.prog X.w) X.A.in1 (Builtin.«max» ⟨[.ref a], [(Str.ofString "default", .int d td)]⟩) (fun fin s' => match fin with
      | .done f => (match (Except.ok f : Result) with | .ok (.ret v) => EP X pins σ Q v s' | .ok _ => False | .error e => X.xe e s')
      | .again c' => c'.quiet = true ∧ codeAny (model X.prog X.w) X.A c' (fun r s' => match r with | .ok (.ret v) => EP X pins σ Q v s' | .ok _ => False | .error e => X.xe e s') s') X.xe s := by
    show wpAny _ X.A.in1 (Builtin.Builtins.bindParams "max" ["key", "default"] 0 ⟨[], [(Str.ofString "default", .int d td)]⟩ >>= _) _ _ s
    refine wpAny_bind (wpAny_of_eq (mxd_bind _) ?_)
    refine wpAny_bind (wpAny_pure ?_)
    have lt : a < s.heap.objs.size := by obtain ⟨_, e, _⟩ := pl.isList; exact Heap.lt_size e
    refine wpAny_bind (wpAny_pyIter_list pl.isList ?_)
    refine wpAny_bind (wpAny_newObj_type ?_)
    have sz1 : (s.heap.push { cls := .type "list_iterator", data := .fields #[.ref a, .int 0 0] }).objs.size = s.heap.objs.size + 1 := Heap.size_push ..
    have W := Walks.list (prog := X.prog) (w := X.w) (A := X.A.in1) (I.ok.hd hc) s.heap.objs.size a (Nat.ne_of_lt lt) its.toArray
    have gt_ := CmpOf.ints_gt (prog := X.prog) (w := X.w) (A := X.A.in1) (P := fun i v => its.toArray[i]? = some v) (fun i => ns.getD i 0) at_
    have old : ∀ {b : Addr} {o : Obj}, s.heap.get? b = some o → b ≠ s.heap.objs.size ∧ b ≠ s.heap.objs.size + 1 := fun e => by
      have := Heap.lt_size e
      exact ⟨Nat.ne_of_lt this, Nat.ne_of_lt (Nat.lt_succ_of_lt this)⟩
    show wpAny _ _ _ _ _ _
    rw [show (toString "max" ++ toString ".loop" : String) = "max.loop" from mxd_nm]
    refine wpAny_pure ⟨plainId_quiet F.plain_max_loop _, ?_⟩
    show codeAny _ _ (.builtin "max.loop" ⟨[.ref s.heap.objs.size, .none, .ref (s.heap.push { cls := .type "list_iterator", data := .fields #[.ref a, .int 0 0] }).objs.size], [("default", .int d td)]⟩) _ _
    rw [sz1]
    refine mxd_first W gt_ ?_ _ ⟨⟨_, Heap.get?_push_of_some _ (Heap.get?_push_size _ rfl), rfl, rfl⟩, (pl.isList.push _).push _⟩ (by rw [← sz1]; exact Heap.get?_push_size _ rfl) (fun v h2 tk pos hP hk => ?_) (fun h2 tk z hk => ?_)
    · intro z
      have z' : s.heap.objs.size + 1 = s.heap.objs.size ∨ s.heap.objs.size + 1 = a := by simpa using z
      rcases z' with z' | z'
      · exact absurd z' (Nat.succ_ne_self _)
      · rw [← z'] at lt
        exact absurd lt (Nat.not_lt.mpr (Nat.le_succ _))
    · obtain ⟨t, rfl⟩ := at_ _ v hP
      have szn : its.toArray.size = ns.length := by rw [List.size_toArray, len]
      obtain ⟨b1, b2⟩ := argBest_gt (fun i => ns.getD i 0) (its.toArray.size - 1)
      refine ⟨.int _, H, I.kept (t' := tk) fun b u e => hk b u (by simpa using (old e).1) (old e).2 (Heap.get?_push_of_some _ (Heap.get?_push_of_some _ e)), ⟨t, rfl⟩, q _ ?_ fun j hj => ?_⟩
      · rw [List.getD_eq_getElem?_getD, List.getElem?_eq_getElem (by omega)]
        exact List.getElem_mem _
      · obtain ⟨i, hi, rfl⟩ := List.mem_iff_getElem.mp hj
        have := b2 i (by omega)
        rw [List.getD_eq_getElem?_getD (i := i), List.getElem?_eq_getElem hi] at this
        exact this
    · have e : ns = [] := by
        cases ns with
        | nil => rfl
        | cons x r => simp at z; rw [z] at len; simp at len
      exact ⟨.int _, H, I.kept (t' := tk) fun b u e => hk b u (by simpa using (old e).1) (old e).2 (Heap.get?_push_of_some _ (Heap.get?_push_of_some _ e)), ⟨td, rfl⟩, q0 e⟩
  have kind : builtinKind "max" = none := F.kind_max
  simp only [checkBuiltinCall, kind]
  cases hsig : Manifest.signature? "max" with
  | none => exact wpAny_pure body
  | some sig =>
    have ok : Bind.checkArgs "max" sig ⟨[.ref a], [(Str.ofString "default", .int d td)]⟩ = pure () := by simpa only [argsOk, hsig] using mxd_args (.ref a) (.int d td)
    show wpAny _ X.A.in1 (Bind.checkArgs "max" sig ⟨[.ref a], [(Str.ofString "default", .int d td)]⟩) _ _ s
    rw [ok]
    exact wpAny_pure body
end
end DW
set_option Elab.async false
set_option linter.all false
set_option maxRecDepth 100000
set_option maxHeartbeats 4000000
namespace DW
open PySem PySem.Spec L2
section
variable {X : Cx} {env : Env} {m ma mb : Md} {a b e : Expr} {da db d : D} {pos p p2 q kp kp2 : Pos} {kk kk2 : Nat} {i j : Int}
theorem dm_maxD {ns : List Int} {k d0 : Int} (hc : X.calm = true) (ms : X.mg "max" = none) (h : DM X env m e (iL ns)) (h0 : ns = [] → k = d0) (h1 : ns ≠ [] → k ∈ ns ∧ ∀ y ∈ ns, y ≤ k) (hg : Gl X "max" := by rfl)
    (hes : starEach (e :: []) X.env = (false, eval e X.env) :: starEach [] X.env := by rfl) (he : backTo pos (starEach (e :: []) X.env) = (false, eval e X.env) :: backTo pos (starEach [] X.env) := by rfl) (hpl : (backTo pos (starEach (e :: []) X.env)).any (·.1) = false := by rfl)
    (hall : (backToKw pos (keywordEach [⟨some "default", .Constant (.int d0) kk kp, kp2⟩] X.env)).all (·.1.isSome) = true := by rfl) (hnone : (backToKw pos (keywordEach [⟨some "default", .Constant (.int d0) kk kp, kp2⟩] X.env)).any (·.1.isNone) = false := by rfl) (hks : (backToKw pos (keywordEach [⟨some "default", .Constant (.int d0) kk kp, kp2⟩] X.env)).filterMap (·.1) = [Str.ofString "default"] := by rfl) :
    DM X env .cl (.Call (.Name "max" p) [e] [⟨some "default", .Constant (.int d0) kk kp, kp2⟩] pos) (.int k) := fun H0 ps σ H E Q qq =>
  (pe_callBK (cr_maxD hc) hg ms (by decide +kernel) (pa_cons pw_E pa_nil hes) (pk_cons pe_int pk_nil) (he := he) (hpl := hpl) (hall := hall) (hnone := hnone) (hks := hks)).w (h H0 ps σ H E _ fun v H1 s1 r1 => by
    obtain ⟨c, rfl, hs⟩ := RM.ints r1 (E.same.trans s1)
    refine ⟨c, ns, d0, rfl, rfl, hs, fun z => ?_, fun m hm hy => ?_⟩
    · rw [← h0 z]; exact qq _ _ s1 (R.int _)
    · obtain ⟨k1, k2⟩ := h1 (List.ne_nil_of_mem hm)
      obtain rfl : m = k := Int.le_antisymm (k2 m hm) (hy k k1)
      exact qq _ _ s1 (R.int _))
theorem dm_divmod (ms : X.mg "divmod" = none) (ha : DM X env ma a (.int i)) (hb : DM X env mb b (.int j)) (hd : CDivP i j) (hg : Gl X "divmod" := by rfl) (he : starEach (a :: [b]) X.env = (false, eval a X.env) :: starEach [b] X.env := by rfl) (he2 : starEach (b :: []) X.env = (false, eval b X.env) :: starEach [] X.env := by rfl) (hpl : (backTo pos (starEach [b] X.env)).any (·.1) = false := by rfl) :
    DM X env .cl (.Call (.Name "divmod" p) [a, b] [] pos) (pD (i / j, i % j)) :=
  dm_callB call_divmodW hg ms (by decide +kernel) (da_any ha (da_any hb da_nil he2) he) (fun H0 ps σ H E vs r Q qq => by
    obtain ⟨v, w, rfl, r1, r2⟩ := RMA.two r
    obtain rfl := r1.intI
    obtain rfl := r2.intI
    refine ⟨i, j, rfl, hd, fun c hcn => ?_⟩
    exact qq _ _ (same_upd hcn) (.tup (E.at_new hcn) (.cons (.int _) (.cons (.int _) .nil)))) (he := he) (hpl := hpl)
end
end DW
set_option Elab.async false
set_option linter.all false
set_option maxRecDepth 100000
set_option maxHeartbeats 4000000
namespace DW
open PySem PySem.Spec L2 PyProof.Rows PySem.W PySem.W
section
variable {β : Type}
theorem each_up {R0 : V → β → Prop} : ∀ {xs : List V} {us : List Value} {bs : List β}, Vals xs us → EachIs R0 xs bs → EachIs (fun v b => ∃ x, RelV x v ∧ R0 x b) us bs
  | _, _, _, .nil, .nil => .nil
  | _, _, _, .cons r t, .cons h e => .cons ⟨_, r, h⟩ (each_up t e)
theorem each_down {R0 : V → β → Prop} : ∀ {us : List Value} {bs : List β}, EachIs (fun v b => ∃ x, RelV x v ∧ R0 x b) us bs → ∃ xs, Vals xs us ∧ EachIs R0 xs bs
  | _, _, .nil => ⟨[], .nil, .nil⟩
  | _, _, .cons ⟨x, r, h⟩ e => by
    obtain ⟨xs, v, e2⟩ := each_down e
    exact ⟨x :: xs, .cons r v, .cons h e2⟩
variable {X : Cx}
def rSortDat (K : PySem.W.Frag) (A : Around) (py : β → PyData) : List V → Hp → VK → Prop := fun vs H Q => ∃ (a : Addr) (xs : List V) (bs : List β) (R0 : V → β → Prop), vs = [.ref a] ∧ SqL K H a xs ∧ EachIs R0 xs bs ∧ (∀ x b, R0 x b → Dp K H x (py b)) ∧ AllAlike (bs.map py) ∧ Sortable (bs.map py) ∧ (∀ b ∈ bs, A.units + 2 + (py b).depth < cLine) ∧
  ∀ (ys : List V) (p : Addr), EachIs R0 ys (bs.mergeSort (dataLe false py)) → H p = none → Q (.ref p) (upd H p (.lst ys))
theorem cr_sortDat {py : β → PyData} : CallR X (.builtin "sorted") (rSortDat X.K X.A py) := by
  rintro pins s σ H vs us Q I r ⟨a, xs, bs, R0, rfl, hs, e, dp, al, so, hu, q⟩
  rw [Vals.ref1 r]
  obtain ⟨its, rv, hl, hz⟩ := I.list hs
  have e1 := each_up rv e
  have len : its.length = bs.length := e1.length
  have rd : EachIs (fun v b => ∃ as, Reads s.heap v (py b) as) its bs := e1.mono fun v b ⟨x, rx, h⟩ => Dp.reads I (py b) x v (dp x b h) rx
  have lz : bs.length ≤ sizeLine := by rw [← len, ← rv.length]; exact hz
  refine sorted_data hl.isList e1 rd al so lz hu fun out lo eo => ?_
  obtain ⟨ys, vy, ey⟩ := each_down eo
  obtain ⟨ep, he⟩ := sortedAll_at s.heap its (List.toArray out)
  refine ⟨.ref _, upd H (s.heap.objs.size + 1) (.lst ys), I.laid (t' := s.toks) (fun _ _ => sortedAll_old) (Nat.le_succ _) ⟨by rw [vy.length, lo]; exact lz, out, ep, vy, he⟩, rfl, q ys _ ey (I.hok.fresh (Nat.le_succ _))⟩
theorem le_anti {x y : PyData} (h : alike x y = true) (h1 : dataLt x y = false) (h2 : dataLt y x = false) : PyData.eqv x y = true := by
  cases e : PyData.eqv x y with
  | true => rfl
  | false =>
    have t : keyToks x = keyToks y := PyProof.Rows.lex_total (O := itemOrd) _ _ h1 h2
    have z := (toks_eqv x y h).2 e [] [Sum.inl 0]
    rw [t, lex_pre] at z
    have z2 : PyProof.Rows.lexLt itemOrd (keyToks y) (keyToks y) = false := PyProof.Rows.lex_irrefl (O := itemOrd) _
    rw [z2] at z
    exact absurd z (by decide)
theorem uniq_of {α : Type} {le : α → α → Bool} : ∀ {l m : List α}, (∀ a ∈ l, ∀ b ∈ l, le a b = true → le b a = true → a = b) → l.Perm m → l.Pairwise (fun a b => le a b = true) → m.Pairwise (fun a b => le a b = true) → l = m
  | [], m, _, p, _, _ => by rw [p.nil_eq]
  | x :: l, [], _, p, _, _ => by have := p.length_eq; simp at this
  | x :: l, y :: m, an, p, h1, h2 => by
    rw [List.pairwise_cons] at h1 h2
    have my : y ∈ x :: l := p.mem_iff.mpr (List.mem_cons_self ..)
    have e : x = y := by
      rcases List.mem_cons.mp my with e | e
      · exact e.symm
      · rcases List.mem_cons.mp (p.mem_iff.mp (List.mem_cons_self ..)) with e' | e'
        · exact e'
        · exact an x (List.mem_cons_self ..) y my (h1.1 y e) (h2.1 x e')
    subst e
    rw [uniq_of (fun a ha b hb => an a (List.mem_cons_of_mem _ ha) b (List.mem_cons_of_mem _ hb)) (List.perm_cons x |>.mp p) h1.2 h2.2]
structure Ordr {α : Type} (enc : α → D) (n : Nat) : Prop where
  p : ∀ a, pl (enc a) = true
  al : ∀ a b, alike (toPy (enc a)) (toPy (enc b)) = true
  nn : ∀ a, toPy (enc a) ≠ .none ∧ ∀ xs, toPy (enc a) ≠ .tuple xs
  dp : ∀ a, (toPy (enc a)).depth ≤ n
  eq : ∀ a b, PyData.eqv (toPy (enc a)) (toPy (enc b)) = true → a = b
def leD {α : Type} (enc : α → D) : α → α → Bool := dataLe false fun a => toPy (enc a)
theorem each_ra {K : PySem.W.Frag} {b : Bool} {H : Hp} {α : Type} {enc : α → D} : ∀ {xs : List V} {as : List α}, RA K b H xs (as.map enc) → EachIs (fun x a => R K b H x (enc a)) xs as
  | _, [], .nil => .nil
  | _, a :: as, .cons r ra => .cons r (each_ra ra)
theorem ra_each {K : PySem.W.Frag} {b : Bool} {H : Hp} {α : Type} {enc : α → D} : ∀ {xs : List V} {as : List α}, EachIs (fun x a => R K b H x (enc a)) xs as → RA K b H xs (as.map enc)
  | _, _, .nil => .nil
  | _, _, .cons r ra => .cons r (ra_each ra)
theorem sort_perm {α : Type} {enc : α → D} {n : Nat} (o : Ordr enc n) {as bs : List α} (h : as.Perm bs) : as.mergeSort (leD enc) = bs.mergeSort (leD enc) := by
  have t : TotalLe (leD enc) := sortLe_total (listOrd itemOrd) false fun a => keyToks (toPy (enc a))
  refine uniq_of (le := leD enc) (fun a _ b _ h1 h2 => o.eq a b (le_anti (o.al a b) ?_ ?_)) ((List.mergeSort_perm _ _).trans (h.trans (List.mergeSort_perm _ _).symm)) (List.pairwise_mergeSort (fun a b c h1 h2 => t.trans a b c h1 h2) (fun a b => by rw [Bool.or_eq_true]; exact t.total a b) _) (List.pairwise_mergeSort (fun a b c h1 h2 => t.trans a b c h1 h2) (fun a b => by rw [Bool.or_eq_true]; exact t.total a b) _)
  · exact Bool.not_eq_true' _ |>.mp h2
  · exact Bool.not_eq_true' _ |>.mp h1
variable {env : Env} {e : Expr} {p pos : Pos}
theorem dm_sortD {α : Type} {enc : α → D} {n : Nat} {as : List α} (o : Ordr enc n) (hn : n ≤ 60) (hu : X.A.units + 64 < cLine) (ms : X.mg "sorted" = none) (h : DM X env .cl e (.lst (as.map enc))) (hg : Gl X "sorted" := by rfl) (he : starEach (e :: []) X.env = (false, eval e X.env) :: starEach [] X.env := by rfl) (hpl : (backTo pos (starEach [] X.env)).any (·.1) = false := by rfl) :
    DM X env .cl (.Call (.Name "sorted" p) [e] [] pos) (.lst ((as.mergeSort (leD enc)).map enc)) := fun H0 ps σ H E Q q =>
  (pe_callB (cr_sortDat (py := fun a : α => toPy (enc a))) hg ms (by decide +kernel) pw_A (he := he) (hpl := hpl)).w ((da_cons h da_nil he) H0 ps σ H E _ fun vs H1 s1 rr => by
    obtain ⟨v, rfl, r⟩ := RMA.one rr
    have E1 := E.mono s1
    obtain ⟨c, xs, rfl, hs, ra⟩ := RM.seqM r E1.same
    refine ⟨c, xs, as, fun x a => R X.K false (er ps (cl H0 H1)) x (enc a), rfl, hs, each_ra ra, fun x a hx => R.dp (o.p a) (R.mono (H := er ps (cl H0 H1)) (H' := H1) ec_le id hx), ?_, .inr ?_, fun a _ => ?_, fun ys l ey hl => ?_⟩
    · intro d hd d' hd'
      obtain ⟨a, _, rfl⟩ := List.mem_map.mp hd
      obtain ⟨a', _, rfl⟩ := List.mem_map.mp hd'
      exact o.al a a'
    · intro d hd
      obtain ⟨a, _, rfl⟩ := List.mem_map.mp hd
      exact o.nn a
    · have := o.dp a
      show X.A.units + 2 + (toPy (enc a)).depth < cLine
      omega
    · have s2 : Same H1 (upd H1 l (.lst ys)) := same_upd hl
      exact q _ _ (s1.trans s2) (.lst (E1.at_new hl) (ra_each (ey.mono fun x a hx => R.mono (ec_mono s2) id hx))))
theorem al_lst {α : Type} {enc : α → D} (h : ∀ a b, alike (toPy (enc a)) (toPy (enc b)) = true) : ∀ as bs : List α, alikeAll (toPys (as.map enc)) (toPys (bs.map enc)) = true
  | [], [] => by rw [List.map_nil, toPys, alikeAll]
  | [], b :: bs => by rw [List.map_nil, toPys, alikeAll]
  | a :: as, [] => by rw [List.map_nil, List.map_cons, toPys, toPys, alikeAll]
  | a :: as, b :: bs => by rw [List.map_cons, List.map_cons, toPys, toPys, alikeAll, h a b, al_lst h as bs]; rfl
theorem al_int (a b : Int) : alike (toPy (.int a)) (toPy (.int b)) = true := by rw [toPy, toPy, alike]
theorem al_pD (a b : Int × Int) : alike (toPy (pD a)) (toPy (pD b)) = true := by
  unfold pD
  simp only [toPy, toPys, alike, alikeAll]
  rfl
theorem lst_nn (ds : List D) : toPy (.lst ds) ≠ .none ∧ ∀ xs, toPy (.lst ds) ≠ .tuple xs := by
  rw [toPy]
  exact ⟨(fun z => by cases z), (fun xs z => by cases z)⟩
theorem ordr_iL : Ordr iL 1 := ⟨fun a => (cmp_iL a).p, fun a b => by rw [toPy, toPy, alike]; exact al_lst al_int a b, fun a => lst_nn _, fun a => (cmp_iL a).dp, fun a b h => (eqv_iL a b).mp h⟩
theorem ordr_pL : Ordr pL 2 := ⟨fun a => (cmp_pL a).p, fun a b => by rw [toPy, toPy, alike]; exact al_lst al_pD a b, fun a => lst_nn _, fun a => (cmp_pL a).dp, fun a b h => (eqv_pL a b).mp h⟩
end
end DW
set_option Elab.async false
set_option linter.all false
set_option maxRecDepth 100000
set_option maxHeartbeats 2000000
namespace DW
open PySem PySem.Spec L2
section
variable {X : Cx} {env : Env} {ma : Md} {a b : Expr} {da : D} {ds : List D} {pos : Pos} {P : Post} {rest : List Stmt}
theorem dss_pairNR (i j : Nat) {x y : Str} {px py pt : Pos} {kt k2 : Nat} {pt2 : Pos} (hc : X.calm = true) (hN : X.N.Nodup) (ha : DM X env ma a da) (hb : DN X env b ds) (hi' : immA ds = true) (h2 : DSs X ((env.1.set i (slotOf ma da)).set j (.own env.2.length), env.2 ++ [.lst ds]) rest P)
    (hi : X.N[i]? = some x := by rfl) (hj : X.N[j]? = some y := by rfl) (hij : i ≠ j := by decide) (hx : X.env.scope.names.lookup x = some .local := by rfl) (hy : X.env.scope.names.lookup y = some .local := by rfl)
    (hw : swappedStores [.Tuple [.Name x px, .Name y py] kt pt] (.Tuple [a, b] k2 pt2) X.env = pure (some [x, y]) := by rfl)
    (hs : swapsWithSole [.Tuple [.Name x px, .Name y py] kt pt] (.Tuple [a, b] k2 pt2) pos.line X.env = pure false := by rfl) (hst : starEach (a :: [b]) X.env = (false, eval a X.env) :: starEach [b] X.env := by rfl) (hst2 : starEach (b :: []) X.env = (false, eval b X.env) :: starEach [] X.env := by rfl) :
    DSs X env (.Assign [.Tuple [.Name x px, .Name y py] kt pt] (.Tuple [a, b] k2 pt2) pos :: rest) P := dss_of (ps_par hc hN hi hj hij hx hy (pa_cons pw_E (pa_cons pw_E pa_nil hst2) hst) hw hs) fun H0 ps σ H E l De ok =>
  ha H0 ps σ H E _ fun w H1 s1 r1 => hb H0 ps σ H1 (E.mono s1) _ fun q xs H2 s2 hq hq1 ra => by
    have E0 := E.mono s1
    have mu1 : ∀ r ∈ ps ++ [q], ∃ o, H2 r = some o ∧ isM o := fun r hr => by
      rcases List.mem_append.mp hr with y | y
      · obtain ⟨_, o', h2, h3⟩ := E0.mu r y
        exact ⟨o', s2 _ _ h2, h3⟩
      · obtain rfl : r = q := by simpa using y
        exact ⟨_, hq1, trivial⟩
    have E1 : EnvR X.K H0 (ps ++ [q]) (env.1, env.2 ++ [.lst ds]) σ H2 := E0.addOwn l s2 hq hq1 trivial ⟨xs, hq1, RA.imm (tups_ec mu1) hi' ra⟩
    have r2 : RM X.K ma H0 (ps ++ [q]) H2 w da := by
      cases ma with
      | ar => exact r1
      | any => exact R.mono s2 id r1
      | cl =>
        refine R.mono (fun t u e => ?_) id r1
        have e1 := ec_mono s2 t u e
        have hap : t ≠ q := ne_of_none (ec_le t u e) hq
        unfold er at e1 ⊢
        split at e1
        · cases e1
        · rename_i z
          rw [if_neg fun y => ?_]
          · exact e1
          · rcases List.mem_append.mp y with y | y
            · exact z y
            · exact hap (by simpa using y)
    refine ⟨w, .ref q, rfl, ⟨fun pins s I => ?_⟩⟩
    have z := I.len
    rw [List.length_set, List.length_set] at z
    have li : i < σ.length := by rw [z]; exact (List.getElem?_eq_some_iff.mp hi).1
    have lj : j < σ.length := by rw [z]; exact (List.getElem?_eq_some_iff.mp hj).1
    have E3 := E1.put li (slotOf_ok r2)
    have E4 : EnvR X.K H0 (ps ++ [q]) ((env.1.set i (slotOf ma da)).set j (.own env.2.length), env.2 ++ [.lst ds]) _ H2 := E3.put (i := j) (v := .ref q) (by rw [List.length_set]; exact lj) ⟨q, rfl, by rw [← l]; simp⟩
    exact (h2 H0 _ _ H2 E4 (by simp [l]) De (ok.step ((Fr.of_same s1).trans (Fr.app s2 hq)))).run pins s I
end
end DW
set_option Elab.async false
set_option linter.all false
set_option maxRecDepth 100000
set_option maxHeartbeats 2000000
namespace DW
open PySem PySem.Spec L2
section
variable {X : Cx} {env : Env} {m mb : Md} {a b : Expr} {pos : Pos}
theorem dm_count {apos : Pos} {ns : List Int} {k : Int} (ha : DM X env m a (iL ns)) (hb : DM X env mb b (.int k))
    (hbase : attributeBase a "count" X.env (eval a X.env) = eval a X.env := by rfl)
    (hfew : ((backTo pos (starEach (b :: []) X.env)).all (fun x => !x.1) && (backToKw pos (keywordEach [] X.env)).all (fun x => x.1.isSome) && decide ((b :: []).length + ([] : List Keyword).length + (if ([] : List Keyword).isEmpty then 0 else 1) < 30)) = true := by rfl)
    (hline : (apos.endLine == pos.line) = true := by rfl) (hst : starEach (b :: []) X.env = (false, eval b X.env) :: starEach [] X.env := by rfl) (hplain : (backTo pos (starEach [] X.env)).any (·.1) = false := by rfl) :
    DM X env .cl (.Call (.Attribute a "count" apos) [b] [] pos) (.int (ns.count k : Nat)) := fun H0 ps σ H E Q q =>
  (pe_bm PySem.F.plainAttrs_list PySem.F.slot_list_count PySem.F.type_list_count mt_lcount pw_E (pa_cons pw_E pa_nil hst) hbase hfew hline hst hplain).w (ha H0 ps σ H E _ fun v H1 s1 r1 => by
    obtain ⟨p, rfl, hs⟩ := RM.ints r1 (E.same.trans s1)
    refine ⟨.inl ⟨rfl, _, hs⟩, hb H0 ps σ H1 (E.mono s1) _ fun w H2 s2 r2 => ?_⟩
    obtain rfl := r2.intI
    exact ⟨p, ns, k, rfl, rfl, s2.seq hs, q _ H2 (s1.trans s2) (R.int _)⟩)
end
def relab (fs sc : Scope) : Scope := { sc with names := sc.names.map fun (n, k) => if (k == .free && fs.kind == .function && fs.names.lookup n == some .cell) then (n, .cell) else (n, k) }
theorem blk2 {X : Cx} {N : List Str} {fs sc scope : Scope} {own : List (Str × Nat)} {s : Shared} {H : Hp} {C : Addr} {c : List (Str × Addr)} {fp : List Addr} (h : blkC N (relab fs sc) scope own = true) (e1 : X.N = N := by rfl) (e2 : X.env.scope = fs := by rfl) : blkC (blkX X sc s H C c fp).N (blkX X sc s H C c fp).env.scope scope own = true := by
  show blkC X.N (relabel sc X.env) scope own = true
  unfold relabel Env.kindOf
  rw [e1, e2]
  exact h
def lcScope : Stmt → Scope
  | .Assign _ (.ListComp _ _ sc _) _ => sc
  | st => defScope st
end DW
set_option Elab.async false
set_option linter.all false
set_option maxRecDepth 100000
set_option maxHeartbeats 2000000
namespace DW
open PySem PySem.Spec PyProof.Rows L2
def ev {α : Type} : List α → List α
  | [] => []
  | [x] => [x]
  | x :: _ :: r => x :: ev r
theorem ev_map {α β : Type} (f : α → β) : ∀ l : List α, ev (l.map f) = (ev l).map f
  | [] => rfl
  | [x] => rfl
  | x :: y :: r => by
    show f x :: ev (r.map f) = _
    rw [ev_map f r]; rfl
theorem ev_sub {α : Type} : ∀ l : List α, (ev l).Sublist l
  | [] => .slnil
  | [x] => .refl _
  | x :: y :: r => ((ev_sub r).cons y).cons_cons x
theorem ev_len {α : Type} (l : List α) : (ev l).length ≤ l.length := (ev_sub l).length_le
theorem ev_pick {α : Type} : ∀ l : List α, (List.range ((l.length + 1) / 2)).filterMap (fun k => l[2 * k]?) = ev l
  | [] => by simp [ev]
  | [x] => by simp [ev]
  | x :: y :: r => by
    have ih := ev_pick r
    have e : ((x :: y :: r).length + 1) / 2 = (r.length + 1) / 2 + 1 := by
      show (r.length + 1 + 1 + 1) / 2 = _
      omega
    rw [e, List.range_succ_eq_map, List.filterMap_cons]
    show x :: _ = x :: ev r
    rw [List.filterMap_map, ← ih]
    rfl
theorem slice_ev (items : Array Value) : PySem.slicePick items none none (some 2) = (ev items.toList).toArray := by
  unfold PySem.slicePick
  have b : sliceBounds none none (some 2) items.size = (0, (items.size : Int), 2) := by
    first
    | rfl
    | simp [sliceBounds]
  rw [b]
  show ((sliceRange 0 (items.size : Int) 2).filterMap (items[·]?)).toArray = _
  congr 1
  rw [← ev_pick items.toList]
  unfold sliceRange
  have e : (if (2 : Int) > 0 then (if (0 : Int) < (items.size : Int) then ((items.size : Int) - 0 + 2 - 1) / 2 else 0) else (if (0 : Int) > (items.size : Int) then (0 - (items.size : Int) - 2 - 1) / (-2) else 0)).toNat = (items.toList.length + 1) / 2 := by
    rw [if_pos (by decide), Array.length_toList]
    split <;> omega
  simp only
  rw [e, List.filterMap_map]
  congr 1
  funext k
  show items[(0 + 2 * (k : Int)).toNat]? = items.toList[2 * k]?
  rw [show (0 + 2 * (k : Int)).toNat = 2 * k by omega, Array.getElem?_toList]
theorem vals_ev : ∀ {xs : List V} {its : List Value}, Vals xs its → Vals (ev xs) (ev its)
  | _, _, .nil => .nil
  | _, _, .cons h .nil => .cons h .nil
  | _, _, .cons h (.cons _ r) => .cons h (vals_ev r)
def tEvL (K : PySem.W.Frag) (te : TE) : TE := fun σ H Q => te σ H fun x H1 => ∃ a xs, x = .ref a ∧ SqL K H1 a xs ∧ ∀ p, H1 p = none → Q (.ref p) (upd H1 p (.lst (ev xs)))
section
variable {X : Cx} {env : Env} {m ma mb : Md} {a b e : Expr} {d : D} {ds : List D} {pos : Pos}
theorem pe_evL {te : TE} {k : Nat} {p1 p3 : Pos} (he : PE X e te) : PE X (.Subscript e (.Slice none none (some (.Constant (.int 2) k p1)) p3) pos) (tEvL X.K te) := by
  refine ⟨fun pins s σ H Q I h => ?_⟩
  refine Subscript_ (thn (he.run pins s σ H _ I h) fun v s1 ⟨x, H1, I1, r1, q1⟩ => ?_)
  obtain ⟨a, xs, ex, hx, q⟩ := q1
  subst ex
  cases r1
  have hst : PO X (some (.Constant (.int 2) k p1)) (tPart (tC (.int 2))) := po_some pe_int
  refine wpAny_Slice (thn (po_none.run pins s1 σ H1 (fun o H2 => o = none ∧ H2 = H1) I1 ⟨rfl, rfl⟩) fun vl s2 ⟨l, H2, I2, pl, el, e2⟩ => ?_)
  subst el e2
  refine thn (po_none.run pins s2 σ H2 (fun o H3 => o = none ∧ H3 = H2) I2 ⟨rfl, rfl⟩) fun vu s3 ⟨u, H3, I3, pu, eu, e3⟩ => ?_
  subst eu e3
  refine thn (hst.run pins s3 σ H3 (fun o H4 => o = some 2 ∧ H4 = H3) I3 ⟨2, rfl, rfl, rfl⟩) fun vs s4 ⟨o, H4, I4, ps, eo, e4⟩ => ?_
  subst eo e4
  have I5 : Inv X pins σ H4 { s4 with heap := s4.heap.push { cls := .type "slice", data := .fields #[vl, vu, vs] } } := I4.kept (t' := s4.toks) fun b ob q => Heap.get?_push_of_some _ q
  obtain ⟨its, r, ht, hz⟩ := I5.list hx
  have hlen := r.length
  show wpAny (model X.prog X.w) X.A (subscriptTail e (.Slice none none (some (.Constant (.int 2) k p1)) p3) (.ref a) (.ref s4.heap.objs.size)) (EP X pins σ Q) X.xe { s4 with heap := s4.heap.push { cls := .type "slice", data := .fields #[vl, vu, vs] } }
  refine tail_any (ops := [.ref a, .ref s4.heap.objs.size]) ht.isList.typeIs (PySem.slot_list_getitem.lookup) ?_ (by with_unfolding_all rfl)
  refine wpAny_getItem_list_slice ht.isList (Heap.IsSliceOf.new _ vl vu vs) pl pu ps (by decide) ?_ (by rw [List.size_toArray]; omega)
  rw [slice_ev]
  refine ⟨.ref _, _, I5.laid (t' := s4.toks) (o := .lst (ev xs)) (fun b ob q => Heap.get?_push_of_some _ q) (Nat.le_refl _) ?_, rfl, q _ (I5.hok.fresh (Nat.le_refl _))⟩
  exact ⟨Nat.le_trans (ev_len xs) hz, _, 0, vals_ev r, Heap.get?_push_size _ rfl⟩
theorem RA.ev {K : PySem.W.Frag} {b : Bool} {H : Hp} : ∀ {xs : List V} {ds : List D}, RA K b H xs ds → RA K b H (DW.ev xs) (DW.ev ds)
  | _, _, .nil => .nil
  | _, _, .cons h .nil => .cons h .nil
  | _, _, .cons h (.cons _ r) => .cons h (RA.ev r)
theorem immA_ev : ∀ {ds : List D}, immA ds = true → immA (ev ds) = true
  | [], _ => rfl
  | [x], h => h
  | x :: y :: r, h => by
    have h' : (imm x && (imm y && immA r)) = true := h
    rw [Bool.and_eq_true, Bool.and_eq_true] at h'
    show (imm x && immA (ev r)) = true
    rw [Bool.and_eq_true]
    exact ⟨h'.1, immA_ev h'.2.2⟩
theorem dm_ev {k : Nat} {p1 p3 : Pos} (ha : DM X env ma e (.lst ds)) (hi' : ma = .cl ∨ immA ds = true) : DM X env .cl (.Subscript e (.Slice none none (some (.Constant (.int 2) k p1)) p3) pos) (.lst (ev ds)) := fun H0 ps σ H E Q q => by
  refine (pe_evL pw_E).w (ha H0 ps σ H E _ fun v H1 s1 r1 => ?_)
  have E1 := E.mono s1
  obtain ⟨p, xs, rfl, hsq, ra⟩ := RM.seqM r1 E1.same
  have ra2 : RA X.K false (er ps (cl H0 H1)) (ev xs) (ev ds) := by
    rcases hi' with z | z
    · subst z; exact RA.ev ra
    · exact E1.immA (immA_ev z) (RA.ev (RMA.any E1.same ra))
  exact ⟨p, xs, rfl, hsq, fun x hx => q _ _ (s1.trans (same_upd hx)) (.lst (E1.at_new hx) (RA.mono (ec_mono (same_upd hx)) id ra2))⟩
theorem dm_evT {α : Type} {enc : α → D} {as : List α} {k : Nat} {p1 p3 : Pos} (ha : DM X env ma e (.lst (as.map enc))) (hi' : ma = .cl ∨ immA (as.map enc) = true) : DM X env .cl (.Subscript e (.Slice none none (some (.Constant (.int 2) k p1)) p3) pos) (.lst ((ev as).map enc)) := by
  rw [← ev_map]
  exact dm_ev ha hi'
theorem dm_glob {x : Str} {i : Int} (hm : ∃ t, X.mg x = some (.int i t)) (hg : Gl X x := by rfl) (hd : (x == ("__debug__" : Str)) = false := by decide) : DM X env .cl (.Name x pos) (.int i) := fun H0 ps σ H E Q q => by
  obtain ⟨t, hm⟩ := hm
  exact (pe_glob (v := .int i) hg hm ⟨t, rfl⟩ hd).w (q _ H (Same.refl H) (R.int _))
theorem dt_lst (h : DM X env m e (.lst ds)) (he : ∀ whole, isTrue e X.env whole = (do let v ← whole; standAt e.pos; holding [v] (truthy v)) := by intro _; rfl) : DT X env e (!ds.isEmpty) := fun H0 ps σ H E Q q =>
  (pt_truth pw_E he).w (h H0 ps σ H E _ fun v H1 s1 r1 => by
    obtain ⟨p, xs, rfl, hs, ra⟩ := RM.seq r1 (E.same.trans s1)
    refine ⟨!ds.isEmpty, .inl ⟨xs, hs, ?_⟩, q H1 s1⟩
    cases ra <;> rfl)
theorem dm_listItems {qs : List (Int × Int)} {p apos cpos : Pos} (hc : X.calm = true) (ml : X.mg "list" = none) (h : DM X env m e (.dic (qs.map fun q => (q.1, D.int q.2)))) (hg : Gl X "list" := by rfl) (hbase : attributeBase e "items" X.env (eval e X.env) = eval e X.env := by rfl) (hline : (apos.endLine == cpos.line) = true := by rfl)
    (hs : starEach [.Call (.Attribute e "items" apos) [] [] cpos] X.env = (false, eval (.Call (.Attribute e "items" apos) [] [] cpos) X.env) :: starEach [] X.env := by rfl) :
    DM X env .cl (.Call (.Name "list" p) [.Call (.Attribute e "items" apos) [] [] cpos] [] pos) (pL qs) := fun H0 ps σ H E Q qq =>
  (LiI.pe_listItems hc pw_E hg ml (by decide +kernel) hbase hline hs).w (h H0 ps σ H E _ fun v H1 s1 r1 => by
    have E1 := E.mono s1
    have r2 := RM.any E1.same r1
    cases r2 with
    | dic hd rk =>
      rename_i d kvs
      obtain rfl := rk_ints rk
      refine ⟨d, _, rfl, hd, fun H' c ts up hc0 hts hcn hc2 pr => ?_⟩
      have s2 : Same H1 H' := up
      have E2 := E1.mono s2
      have key : ts.map (fun t => kH H' (.ref t)) = qs ∧ ∀ t ∈ ts, H' t = some (.tup [.int (kH H' (.ref t)).1, .int (kH H' (.ref t)).2]) := by
        have go : ∀ (ts : List Addr) (qs : List (Int × Int)), Paired (fun (t : Addr) (q : Key × V) => H' t = some (.tup [kV q.1, q.2])) ts (kvV qs) → ts.map (fun t => kH H' (.ref t)) = qs ∧ ∀ t ∈ ts, H' t = some (.tup [.int (kH H' (.ref t)).1, .int (kH H' (.ref t)).2]) := by
          intro ts
          induction ts with
          | nil =>
            intro qs h
            cases qs with
            | nil => exact ⟨rfl, fun t ht => by cases ht⟩
            | cons q qs => cases h
          | cons t ts ih =>
            intro qs h
            cases qs with
            | nil => cases h
            | cons q qs =>
              cases h with
              | cons h1 h2 =>
                obtain ⟨i1, i2⟩ := ih qs h2
                have h1' : H' t = some (.tup [.int q.1, .int q.2]) := h1
                have e : kH H' (.ref t) = q := kH_at h1'
                refine ⟨by rw [List.map_cons, e, i1], fun u hu => ?_⟩
                rcases List.mem_cons.mp hu with rfl | hu
                · rw [e]; exact h1'
                · exact i2 u hu
        exact go ts qs pr
      refine qq _ _ (s1.trans s2) (.lst (xs := ts.map V.ref) ?_ ?_)
      · unfold er
        rw [if_neg (nin_ps E1 hc0)]
        exact cl_new (E1.same.free hc0) hc2
      · rw [← key.1]
        have z : ts.map (fun t => kH H' (.ref t)) = (ts.map V.ref).map (kH H') := by rw [List.map_map]; rfl
        rw [z]
        refine RA.of_pairs (H := H') (tups_ec fun r hr => (E2.mu r hr).2) fun x hx => ?_
        obtain ⟨t, ht, rfl⟩ := List.mem_map.mp hx
        exact ⟨t, rfl, key.2 t ht⟩)
end
end DW
set_option Elab.async false
set_option linter.all false
set_option maxRecDepth 100000
set_option maxHeartbeats 2000000
namespace DW
open PySem PySem.Spec L2
def wIb (X : Cx) (scope : Scope) (tg iter : Expr) : TI := fun σ H R => ∀ s H' C c fp, wI (blkX X scope s H' C c fp) tg iter σ H R
section
variable {X : Cx} {env : Env} {m ma mb : Md} {a b e : Expr} {d : D} {ds : List D} {pos : Pos}
theorem lc2_read {α β : Type} {elt tg iter tg1 iter1 : Expr} {scope : Scope} {mi mi1 : Md} {enc : α → D} {enc1 : β → D} {as : List α} {bs : α → List β} {vs vs1 J J1 : List Nat} {envs : α → Env} {envs1 : α → β → Env} {f : α → β → D}
    (hi : DI X env mi tg iter (as.map enc)) (hJ : ∀ j ∈ J, j ∈ vs) (hJ1 : ∀ j ∈ J1, j ∈ vs1)
    (hg : ∀ a ∈ as, ∀ s H C c fp, DG (blkX X scope s H C c fp) (wipeE env vs) mi tg (enc a) (envs a) J) (how : ∀ a ∈ as, (envs a).2.length = env.2.length)
    (hi1 : ∀ a ∈ as, ∀ s H C c fp, DI (blkX X scope s H C c fp) (envs a) mi1 tg1 iter1 ((bs a).map enc1))
    (hg1 : ∀ a ∈ as, ∀ b ∈ bs a, ∀ s H C c fp, DG (blkX X scope s H C c fp) (wipeE (envs a) vs1) mi1 tg1 (enc1 b) (envs1 a b) J1)
    (he : ∀ a ∈ as, ∀ b ∈ bs a, ∀ s H C c fp, DM (blkX X scope s H C c fp) (envs1 a b) .cl elt (f a b)) (hl : (as.flatMap bs).length ≤ 90000) {σ : L2.St} {H : Hp} {H0 : Hp} {ps : List Addr} (E : EnvR X.K H0 ps env σ H) {Q : VK}
    (q : ∀ p xs H2, Same H H2 → H p = none → H2 p = some (.lst xs) → RA X.K false (er ps (cl H0 H2)) xs (as.flatMap fun a => (bs a).map (f a)) → p ∉ ps → H0 p = none → Q (.ref p) H2) :
    tLc2 (wI X tg iter) (wGb X scope tg) (wTsb X scope []) (wIb X scope tg1 iter1) (wGb X scope tg1) (wTsb X scope []) (wEb X scope elt) vs vs1 σ H Q := by
  refine hi H0 ps σ H E _ fun J' H1 s1 ok D hD => ?_
  have E1 := E.mono s1
  have hDps : D ∉ ps := fun z => by
    obtain ⟨_, o', h2, _⟩ := E1.mu D z
    rw [hD] at h2; cases h2
  have h0D := E1.same.free hD
  have hown : env.2.length ≤ ps.length := by
    cases hq : env.2 with
    | nil => simp
    | cons d0 r0 =>
      obtain ⟨p, h1, _⟩ := E.ow (env.2.length - 1) ((d0 :: r0)[(d0 :: r0).length - 1]'(by simp)) (by rw [hq]; simp)
      have := (List.getElem?_eq_some_iff.mp h1).1
      rw [hq] at this
      simp at this ⊢
      omega
  have take_len : ∀ i, ((as.take i).flatMap bs).length ≤ (as.flatMap bs).length := fun i => by
    conv => rhs; rw [← List.take_append_drop i as, List.flatMap_append, List.length_append]
    omega
  have hlenF : ∀ l : List α, (l.flatMap fun a => (bs a).map (f a)).length = (l.flatMap bs).length := by
    intro l
    induction l with
    | nil => rfl
    | cons x l ih => rw [List.flatMap_cons, List.flatMap_cons, List.length_append, List.length_append, List.length_map, ih]
  refine ⟨fun i mm H2 => i + mm = as.length ∧ ∃ acc : List V, H2 D = some (.lst acc) ∧ RA X.K false (er (ps ++ [D]) (cl H0 H2)) acc ((as.take i).flatMap fun a => (bs a).map (f a)) ∧ EnvR X.K H0 (ps ++ [D]) (wipeE env vs) (L2.wipe σ vs) H2 ∧ (∀ x o, x ≠ D → H1 x = some o → H2 x = some o), ⟨as.length, by omega, [], upd_same, .nil, (E1.more hD (o := .lst []) trivial).wipe vs, fun x o hx h => by rw [upd_ne hx]; exact h⟩, ?_⟩
  rintro i mm H2 ⟨him, acc, hacc, ra, E2, fr⟩
  have frr : Fr ps H1 (ps ++ [D]) H2 := fun x o hx h => by
    have ne : x ≠ D := ne_of_none h hD
    exact ⟨fun z => (List.mem_append.mp z).elim hx fun y => ne (by simpa using y), fr x o ne h⟩
  by_cases hi2 : i < as.length
  · have hget : as[i]? = some as[i] := List.getElem?_eq_getElem hi2
    have hmem : as[i] ∈ as := List.getElem_mem hi2
    have hgm : (as.map enc)[i]? = some (enc as[i]) := by rw [List.getElem?_map, hget]; rfl
    have take_succ : as.take (i + 1) = as.take i ++ [as[i]] := by rw [List.take_add_one, hget]; rfl
    refine .inr ⟨ok.go i _ H2 _ E2.same frr hgm, fun H' => i + 1 + (mm - 1) = as.length ∧ ∃ acc : List V, H' D = some (.lst acc) ∧ RA X.K false (er (ps ++ [D]) (cl H0 H')) acc ((as.take (i + 1)).flatMap fun a => (bs a).map (f a)) ∧ EnvR X.K H0 (ps ++ [D]) (wipeE env vs) (L2.wipe σ vs) H' ∧ (∀ x o, x ≠ D → H1 x = some o → H' x = some o), fun H' h => ⟨mm - 1, by omega, h⟩, fun x H3 hy => ?_⟩
    obtain ⟨s3, rx⟩ := ok.yld i _ H2 _ x H3 E2.same frr (fun p hp => by obtain ⟨_, o, h2, _⟩ := E2.mu p hp; exact ⟨o, h2⟩) hgm hy
    intro s Hb C c fp
    refine hg as[i] hmem s Hb C c fp H0 _ _ H3 x (E2.mono s3) rx _ fun σ' E4 hw => ⟨(hw vs hJ).trans wipe_idem, fun s Hb C c fp => ?_⟩
    refine dts_nil (X := blkX X scope s Hb C c fp) H0 _ _ H3 E4 _ fun H5 s5 => ?_
    rw [if_pos rfl]
    intro s Hb C c fp
    refine hi1 as[i] hmem s Hb C c fp H0 _ _ H5 (E4.mono s5) _ fun J1' H6 s6 ok1 => ?_
    have E6 := (E4.mono s5).mono s6
    have s26 : Same H2 H6 := (s3.trans s5).trans s6
    refine ⟨fun j k H7 => j + k = (bs as[i]).length ∧ ∃ acc : List V, H7 D = some (.lst acc) ∧ RA X.K false (er (ps ++ [D]) (cl H0 H7)) acc (((as.take i).flatMap fun a => (bs a).map (f a)) ++ ((bs as[i]).take j).map (f as[i])) ∧ EnvR X.K H0 (ps ++ [D]) (wipeE (envs as[i]) vs1) (L2.wipe σ' vs1) H7 ∧ EnvR X.K H0 (ps ++ [D]) (wipeE env vs) (L2.wipe σ vs) H7 ∧ (∀ x o, x ≠ D → H1 x = some o → H7 x = some o) ∧ (∀ x o, x ≠ D → H6 x = some o → H7 x = some o), ⟨(bs as[i]).length, by omega, acc, s26 _ _ hacc, by simpa using RA.mono (ec_mono s26) id ra, E6.wipe vs1, E2.mono s26, fun x o hx h => s26 _ _ (fr x o hx h), fun x o hx h => h⟩, ?_⟩
    rintro j k H7 ⟨hjk, acc1, hacc1, ra1, E71, E72, fr1, fr6⟩
    have frr1 : Fr (ps ++ [D]) H6 (ps ++ [D]) H7 := fun x o hx h => by
      have ne : x ≠ D := fun z => hx (by rw [z]; simp)
      exact ⟨hx, fr6 x o ne h⟩
    by_cases hj2 : j < (bs as[i]).length
    · have hget1 : (bs as[i])[j]? = some (bs as[i])[j] := List.getElem?_eq_getElem hj2
      have hmem1 : (bs as[i])[j] ∈ bs as[i] := List.getElem_mem hj2
      have hgm1 : ((bs as[i]).map enc1)[j]? = some (enc1 (bs as[i])[j]) := by rw [List.getElem?_map, hget1]; rfl
      have take_succ1 : (bs as[i]).take (j + 1) = (bs as[i]).take j ++ [(bs as[i])[j]] := by rw [List.take_add_one, hget1]; rfl
      refine .inr ⟨ok1.go j _ H7 _ E71.same frr1 hgm1, fun H' => j + 1 + (k - 1) = (bs as[i]).length ∧ ∃ acc : List V, H' D = some (.lst acc) ∧ RA X.K false (er (ps ++ [D]) (cl H0 H')) acc (((as.take i).flatMap fun a => (bs a).map (f a)) ++ ((bs as[i]).take (j + 1)).map (f as[i])) ∧ EnvR X.K H0 (ps ++ [D]) (wipeE (envs as[i]) vs1) (L2.wipe σ' vs1) H' ∧ EnvR X.K H0 (ps ++ [D]) (wipeE env vs) (L2.wipe σ vs) H' ∧ (∀ x o, x ≠ D → H1 x = some o → H' x = some o) ∧ (∀ x o, x ≠ D → H6 x = some o → H' x = some o), fun H' h => ⟨k - 1, by omega, h⟩, fun x1 H8 hy1 => ?_⟩
      obtain ⟨s8, rx1⟩ := ok1.yld j _ H7 _ x1 H8 E71.same frr1 (fun p hp => by obtain ⟨_, o, h2, _⟩ := E71.mu p hp; exact ⟨o, h2⟩) hgm1 hy1
      intro s Hb C c fp
      refine hg1 as[i] hmem _ hmem1 s Hb C c fp H0 _ _ H8 x1 (E71.mono s8) rx1 _ fun σ'' E9 hw1 => ⟨(hw1 vs1 hJ1).trans wipe_idem, fun s Hb C c fp => ?_⟩
      refine dts_nil (X := blkX X scope s Hb C c fp) H0 _ _ H8 E9 _ fun H9 s9 => ?_
      rw [if_pos rfl]
      intro s Hb C c fp
      refine he as[i] hmem _ hmem1 s Hb C c fp H0 _ _ H9 (E9.mono s9) _ fun y H10 s10 ry => ?_
      have s710 : Same H7 H10 := (s8.trans s9).trans s10
      have hlen : acc1.length < (as.flatMap bs).length := by
        have e := RA.length ra1
        rw [List.length_append, hlenF, List.length_map, List.length_take] at e
        have t := take_len (i + 1)
        rw [take_succ, List.flatMap_append, List.length_append, List.flatMap_singleton] at t
        omega
      have hDm : D ∈ ps ++ [D] := by simp
      have gD : (ps ++ [D])[ps.length]? = some D := by simp
      refine ⟨acc1, s710 _ _ hacc1, szlt (by omega), by omega, acc1 ++ [y], upd_same, ?_, ?_, ?_, fun x o hx h => by rw [upd_ne hx]; exact s710 _ _ (fr1 x o hx h), fun x o hx h => by rw [upd_ne hx]; exact s710 _ _ (fr6 x o hx h)⟩
      · rw [ec_poke hDm, take_succ1, List.map_append, ← List.append_assoc]
        exact RA.snoc (RA.mono (ec_mono s710) id ra1) ry
      · exact (E71.mono s710).poke gD (by show (envs as[i]).2.length ≤ _; rw [how _ hmem]; exact hown) trivial
      · exact (E72.mono s710).poke gD (by show env.2.length ≤ _; exact hown) trivial
    · have hj3 : j = (bs as[i]).length := by omega
      refine .inl ⟨ok1.stop j _ H7 E71.same frr1 (by rw [List.length_map]; omega), by omega, acc1, hacc1, ?_, E72, fr1⟩
      rw [hj3, List.take_length] at ra1
      rw [take_succ, List.flatMap_append, List.flatMap_singleton]
      exact ra1
  · have hi3 : i = as.length := by omega
    refine .inl ⟨ok.stop i _ H2 E2.same frr (by rw [List.length_map]; omega), q _ acc H2 (fun x o h => ?_) (s1.free hD) hacc ?_ hDps h0D⟩
    · have h1 := s1 _ _ h
      exact fr x o (ne_of_none h1 hD) h1
    · rw [hi3, List.take_length] at ra
      exact RA.mono (er_sub fun p hp => List.mem_append_left _ hp) id ra
theorem dm_lc2 {α β : Type} {elt tg iter tg1 iter1 : Expr} {scope : Scope} {own : List (Str × Nat)} {mi mi1 : Md} {enc : α → D} {enc1 : β → D} {as : List α} {bs : α → List β} {J J1 : List Nat} {envs : α → Env} {envs1 : α → β → Env} {f : α → β → D}
    (vs1 : List Nat) (hc : X.calm = true) (hN : X.N.Nodup) (ok : blkC X.N X.env.scope scope own = true) (hi : DI X env mi tg iter (as.map enc))
    (hg : ∀ a ∈ as, ∀ s H C c fp, DG (blkX X scope s H C c fp) (wipeE env (own.map (·.2))) mi tg (enc a) (envs a) J) (how : ∀ a ∈ as, (envs a).2.length = env.2.length)
    (hi1 : ∀ a ∈ as, ∀ s H C c fp, DI (blkX X scope s H C c fp) (envs a) mi1 tg1 iter1 ((bs a).map enc1))
    (hg1 : ∀ a ∈ as, ∀ b ∈ bs a, ∀ s H C c fp, DG (blkX X scope s H C c fp) (wipeE (envs a) vs1) mi1 tg1 (enc1 b) (envs1 a b) J1)
    (he : ∀ a ∈ as, ∀ b ∈ bs a, ∀ s H C c fp, DM (blkX X scope s H C c fp) (envs1 a b) .cl elt (f a b)) (hl : (as.flatMap bs).length ≤ 90000) (hJ : ∀ j ∈ J, j ∈ own.map (·.2) := by decide) (hJ1 : ∀ j ∈ J1, j ∈ vs1 := by decide) (hv : ∀ i ∈ vs1, i ∈ own.map (·.2) := by decide)
    (hs : ∀ x, foldedSetIterable iter X.env x = pure x := by intro _; rfl) (hs1 : ∀ env x, foldedSetIterable iter1 env x = pure x := by intro _ _; rfl) :
    DM X env .cl (.ListComp elt [⟨tg, iter, [], 0⟩, ⟨tg1, iter1, [], 0⟩] scope pos) (.lst (as.flatMap fun a => (bs a).map (f a))) := fun H0 ps σ H E Q q =>
  (pe_lc2 (g := wGb X scope tg) (tt := wTsb X scope []) (wi1 := wIb X scope tg1 iter1) (g1 := wGb X scope tg1) (tt1 := wTsb X scope []) (te := wEb X scope elt) (vs1 := vs1) hc hN pw_I (blkOk_by ok) hv (fun s H C c fp => ⟨fun pins s' σ H v u Q I r h => (h _ _ _ _ _).run pins s' u I r⟩) (fun s H C c fp => ⟨fun pins s' σ H Q I h => (h _ _ _ _ _).run pins s' I⟩)
    (fun s H C c fp => ⟨fun pins s' σ H R I h => (h _ _ _ _ _).run pins s' I⟩) (fun s H C c fp => ⟨fun pins s' σ H v u Q I r h => (h _ _ _ _ _).run pins s' u I r⟩) (fun s H C c fp => ⟨fun pins s' σ H Q I h => (h _ _ _ _ _).run pins s' I⟩)
    (fun s H C c fp => ⟨fun pins s' σ H Q I h => (h _ _ _ _ _).run pins s' I⟩) hs hs1).w (lc2_read hi hJ hJ1 hg how hi1 hg1 he hl E fun p xs H2 sm _ hp ra hn h0 => q _ H2 sm (lst_cl hn h0 hp ra))
end
end DW
set_option Elab.async false
set_option linter.all false
set_option maxRecDepth 100000
set_option maxHeartbeats 2000000
namespace DW
open PySem PySem.Spec L2
theorem pL_snoc (l : List (Int × Int)) (x : Int × Int) : D.lst (l.map pD ++ [pD x]) = pL (l ++ [x]) := by
  have h := congrArg D.lst (List.map_append (f := pD) (l₁ := l) (l₂ := [x]))
  exact h.symm
theorem iL_snoc (l : List Int) (x : Int) : D.lst (l.map D.int ++ [D.int x]) = iL (l ++ [x]) := by
  have h := congrArg D.lst (List.map_append (f := D.int) (l₁ := l) (l₂ := [x]))
  exact h.symm
section
variable {X : Cx} {env : Env} {mb : Md} {a b : Expr} {db : D} {ds : List D} {pos : Pos} {P : Post} {rest : List Stmt}
theorem dss_pairNL (i j : Nat) {x y : Str} {px py pt : Pos} {kt k2 : Nat} {pt2 : Pos} (hc : X.calm = true) (hN : X.N.Nodup) (ha : DN X env a ds) (hb : DM X env mb b db) (hi' : immA ds = true) (hi2 : DW.imm db = true) (h2 : DSs X ((env.1.set i (.own env.2.length)).set j (.val db), env.2 ++ [.lst ds]) rest P)
    (hi : X.N[i]? = some x := by rfl) (hj : X.N[j]? = some y := by rfl) (hij : i ≠ j := by decide) (hx : X.env.scope.names.lookup x = some .local := by rfl) (hy : X.env.scope.names.lookup y = some .local := by rfl)
    (hw : swappedStores [.Tuple [.Name x px, .Name y py] kt pt] (.Tuple [a, b] k2 pt2) X.env = pure (some [x, y]) := by rfl)
    (hs : swapsWithSole [.Tuple [.Name x px, .Name y py] kt pt] (.Tuple [a, b] k2 pt2) pos.line X.env = pure false := by rfl) (hst : starEach (a :: [b]) X.env = (false, eval a X.env) :: starEach [b] X.env := by rfl) (hst2 : starEach (b :: []) X.env = (false, eval b X.env) :: starEach [] X.env := by rfl) :
    DSs X env (.Assign [.Tuple [.Name x px, .Name y py] kt pt] (.Tuple [a, b] k2 pt2) pos :: rest) P := dss_of (ps_par hc hN hi hj hij hx hy (pa_cons pw_E (pa_cons pw_E pa_nil hst2) hst) hw hs) fun H0 ps σ H E l De ok =>
  ha H0 ps σ H E _ fun q xs H1 s1 hq hq1 ra => hb H0 ps σ H1 (E.mono s1) _ fun w H2 s2 r2 => by
    have s12 := s1.trans s2
    have hq2 := s2 _ _ hq1
    have mu1 : ∀ r ∈ ps ++ [q], ∃ o, H2 r = some o ∧ isM o := fun r hr => by
      rcases List.mem_append.mp hr with y | y
      · obtain ⟨_, o', h2, h3⟩ := E.mu r y
        exact ⟨o', s12 _ _ h2, h3⟩
      · obtain rfl : r = q := by simpa using y
        exact ⟨_, hq2, trivial⟩
    have E1 : EnvR X.K H0 (ps ++ [q]) (env.1, env.2 ++ [.lst ds]) σ H2 := E.addOwn l s12 hq hq2 trivial ⟨xs, hq2, RA.imm (tups_ec mu1) hi' (RA.mono s2 id ra)⟩
    have rw_ := E1.imm (b := true) hi2 (RM.any (E.same.trans s12) r2)
    refine ⟨.ref q, w, rfl, ⟨fun pins s I => ?_⟩⟩
    have z := I.len
    rw [List.length_set, List.length_set] at z
    have li : i < σ.length := by rw [z]; exact (List.getElem?_eq_some_iff.mp hi).1
    have lj : j < σ.length := by rw [z]; exact (List.getElem?_eq_some_iff.mp hj).1
    have E3 : EnvR X.K H0 (ps ++ [q]) (env.1.set i (.own env.2.length), env.2 ++ [.lst ds]) (σ.set i (some (.ref q))) H2 := E1.put li ⟨q, rfl, by rw [← l]; simp⟩
    have E4 : EnvR X.K H0 (ps ++ [q]) ((env.1.set i (.own env.2.length)).set j (.val db), env.2 ++ [.lst ds]) _ H2 := E3.put (i := j) (v := w) (by rw [List.length_set]; exact lj) ⟨w, rfl, rw_⟩
    exact (h2 H0 _ _ H2 E4 (by simp [l]) De (ok.step (Fr.app s12 hq))).run pins s I
variable {e : Expr} {m : Md}
theorem dss_appP (i : Nat) {j : Nat} {l : List (Int × Int)} {q : Int × Int} {x : Str} {p apos cpos : Pos} (h : DM X env m e (pD q)) (h2 : DSs X (env.1, env.2.set j (pL (l ++ [q]))) rest P) (hl : l.length < 100000) (hs : env.1[i]? = some (.own j) := by rfl) (ho : env.2[j]? = some (pL l) := by rfl) (hN : X.N[i]? = some x := by rfl) (hv : Vis X.env.scope x := by first | exact Or.inl rfl | exact Or.inr (Or.inl rfl) | exact Or.inr (Or.inr rfl)) (hd : (x == ("__debug__" : Str)) = false := by decide)
    (hcd : (x == ("__classdict__" : Str)) = false := by decide) (hbase : attributeBase (.Name x p) "append" X.env (eval (.Name x p) X.env) = eval (.Name x p) X.env := by rfl)
    (hfew : ((backTo cpos (starEach (e :: []) X.env)).all (fun x => !x.1) && (backToKw cpos (keywordEach [] X.env)).all (fun x => x.1.isSome) && decide ((e :: []).length + ([] : List Keyword).length + (if ([] : List Keyword).isEmpty then 0 else 1) < 30)) = true := by rfl)
    (hline : (apos.endLine == cpos.line) = true := by rfl) (hst : starEach (e :: []) X.env = (false, eval e X.env) :: starEach [] X.env := by rfl) (hplain : (backTo cpos (starEach [] X.env)).any (·.1) = false := by rfl)
    (hsw : swapsWith (.Call (.Attribute (.Name x p) "append" apos) [e] [] cpos) none pos.line X.env = pure false := by rfl) :
    DSs X env (.Expr (.Call (.Attribute (.Name x p) "append" apos) [e] [] cpos) pos :: rest) P :=
  dss_app i (ds := l.map pD) (d := pD q) h imm_pD (by rw [pL_snoc]; exact h2) (by rw [List.length_map]; exact hl) hs ho hN hv hd hcd hbase hfew hline hst hplain hsw
theorem dss_appI (i : Nat) {j : Nat} {l : List Int} {q : Int} {x : Str} {p apos cpos : Pos} (h : DM X env m e (.int q)) (h2 : DSs X (env.1, env.2.set j (iL (l ++ [q]))) rest P) (hl : l.length < 100000) (hs : env.1[i]? = some (.own j) := by rfl) (ho : env.2[j]? = some (iL l) := by rfl) (hN : X.N[i]? = some x := by rfl) (hv : Vis X.env.scope x := by first | exact Or.inl rfl | exact Or.inr (Or.inl rfl) | exact Or.inr (Or.inr rfl)) (hd : (x == ("__debug__" : Str)) = false := by decide)
    (hcd : (x == ("__classdict__" : Str)) = false := by decide) (hbase : attributeBase (.Name x p) "append" X.env (eval (.Name x p) X.env) = eval (.Name x p) X.env := by rfl)
    (hfew : ((backTo cpos (starEach (e :: []) X.env)).all (fun x => !x.1) && (backToKw cpos (keywordEach [] X.env)).all (fun x => x.1.isSome) && decide ((e :: []).length + ([] : List Keyword).length + (if ([] : List Keyword).isEmpty then 0 else 1) < 30)) = true := by rfl)
    (hline : (apos.endLine == cpos.line) = true := by rfl) (hst : starEach (e :: []) X.env = (false, eval e X.env) :: starEach [] X.env := by rfl) (hplain : (backTo cpos (starEach [] X.env)).any (·.1) = false := by rfl)
    (hsw : swapsWith (.Call (.Attribute (.Name x p) "append" apos) [e] [] cpos) none pos.line X.env = pure false := by rfl) :
    DSs X env (.Expr (.Call (.Attribute (.Name x p) "append" apos) [e] [] cpos) pos :: rest) P :=
  dss_app i (ds := l.map D.int) (d := .int q) h rfl (by rw [iL_snoc]; exact h2) (by rw [List.length_map]; exact hl) hs ho hN hv hd hcd hbase hfew hline hst hplain hsw
theorem dss_setLcN {α β : Type} (enc' : β → D) (i : Nat) {y : Str} {py : Pos} {elt tg iter : Expr} {scope : Scope} {own : List (Str × Nat)} {mi : Md} {enc : α → D} {as : List α} {J : List Nat} {envs : α → Env} {g : α → β} {spos : Pos}
    (hc : X.calm = true) (hN : X.N.Nodup) (ok : blkC X.N X.env.scope scope own = true) (hi : DI X env mi tg iter (as.map enc)) (hg : ∀ a ∈ as, ∀ s H C c fp, DG (blkX X scope s H C c fp) (wipeE env (own.map (·.2))) mi tg (enc a) (envs a) J)
    (he : ∀ a ∈ as, ∀ s H C c fp, DM (blkX X scope s H C c fp) (envs a) .cl elt (enc' (g a))) (himm : ∀ b, DW.imm (enc' b) = true) (hl : as.length ≤ 90000)
    (h2 : DSs X (env.1.set i (.own env.2.length), env.2 ++ [.lst ((as.map g).map enc')]) rest P) (hJ : ∀ j ∈ J, j ∈ own.map (·.2) := by decide) (hy : X.N[i]? = some y := by rfl) (hyl : X.env.scope.names.lookup y = some .local := by rfl) (hsw : swapsWith (.ListComp elt [⟨tg, iter, [], 0⟩] scope pos) (some (.Name y py)) spos.line X.env = pure true := by exact sw_true rfl rfl rfl (by decide +kernel))
    (hs : ∀ x, foldedSetIterable iter X.env x = pure x := by intro _; rfl) :
    DSs X env (.Assign [.Name y py] (.ListComp elt [⟨tg, iter, [], 0⟩] scope pos) spos :: rest) P :=
  dss_of (ps_setLc (g := wGb X scope tg) (tt := wTsb X scope []) (te := wEb X scope elt) hc hN hy hyl hsw pw_I (blkOk_by ok) (fun s H C c fp => ⟨fun pins s' σ H v u Q I r h => (h _ _ _ _ _).run pins s' u I r⟩) (fun s H C c fp => ⟨fun pins s' σ H Q I h => (h _ _ _ _ _).run pins s' I⟩)
    (fun s H C c fp => ⟨fun pins s' σ H Q I h => (h _ _ _ _ _).run pins s' I⟩) hs) fun H0 ps σ H E l De okk => by
  refine lc_read (t := fun _ => true) (f := fun a => enc' (g a)) hi hJ hg (fun a ha s H C c fp => dts_nil) (fun a ha _ => he a ha) hl E fun q xs H1 s1 hq hq1 ra hn h0 => ⟨fun pins s I => ?_⟩
  have hlen := len_set I hy
  have mu1 : ∀ r ∈ ps ++ [q], ∃ o, H1 r = some o ∧ isM o := fun r hr => by
    rcases List.mem_append.mp hr with y | y
    · obtain ⟨_, o', h2, h3⟩ := E.mu r y
      exact ⟨o', s1 _ _ h2, h3⟩
    · obtain rfl : r = q := by simpa using y
      exact ⟨_, hq1, trivial⟩
  rw [List.filter_eq_self.mpr (fun _ _ => rfl)] at ra
  have ra' : RA X.K false (er ps (cl H0 H1)) xs ((as.map g).map enc') := by rw [List.map_map]; exact ra
  have ra2 : RA X.K true H1 xs ((as.map g).map enc') := RA.mono (b := false) ec_le (fun z => nomatch z) ra'
  have E1 : EnvR X.K H0 (ps ++ [q]) (env.1, env.2 ++ [.lst ((as.map g).map enc')]) σ H1 := E.addOwn l s1 hq hq1 trivial ⟨xs, hq1, RA.imm (tups_ec mu1) (immA_map himm) ra2⟩
  have E2 : EnvR X.K H0 (ps ++ [q]) (env.1.set i (.own env.2.length), env.2 ++ [.lst ((as.map g).map enc')]) (List.set σ i (some (.ref q))) H1 := E1.put hlen ⟨q, rfl, by rw [← l]; simp⟩
  exact (h2 H0 _ _ H1 E2 (by simp [l]) De (okk.step (Fr.app s1 hq))).run pins s I
end
end DW
set_option Elab.async false
set_option linter.all false
set_option maxRecDepth 100000
set_option maxHeartbeats 2000000
namespace DW
open PySem PySem.Spec PyProof.Rows L2
abbrev XR (X : Cx) (C : Addr) (H0 : Hp) : Prop := L2N.Takes X (fun cls d _ H' => cls = .ref C ∧ d = none ∧ Same H0 H')
def DRe (X : Cx) (C : Addr) (env : Env) (e : Expr) : Prop := ∀ (H0 : Hp) (ps : List Addr) (σ : L2.St) (H : Hp), EnvR X.K H0 ps env σ H → XR X C H0 → ∀ Q : VK, wE X e σ H Q
def DRa (X : Cx) (C : Addr) (env : Env) (es : List Expr) : Prop := ∀ (H0 : Hp) (ps : List Addr) (σ : L2.St) (H : Hp), EnvR X.K H0 ps env σ H → XR X C H0 → ∀ Q : List V → Hp → Prop, wA X es σ H Q
def DRs (X : Cx) (C : Addr) (env : Env) (sts : List Stmt) : Prop := ∀ (H0 : Hp) (ps : List Addr) (σ : L2.St) (H : Hp), EnvR X.K H0 ps env σ H → ps.length = env.2.length → XR X C H0 → ∀ De : Ends, wSs X sts De σ H
def PSpR (K : PySem.W.Frag) (cs : Nat → Addr) (Rel : List D → Nat → Prop) : Sp := fun vs H _ E => ∃ ds i, RA K true H vs ds ∧ Rel ds i ∧ ∀ H', Same H H' → E (.ref (cs i)) none H'
def CallX (P : Program) (w : World) (K : PySem.W.Frag) (mg : Str → Option Value) (base : Heap) (cs : Nat → Addr) (x : Str) (k : Nat) (Rel : List D → Nat → Prop) : Prop :=
  ∃ (f : Addr) (fd : FuncData) (ps : List Str), mg x = some (.ref f) ∧ PySem.W.keepIn K (.ref f) = true ∧ Binds K fd ps [] ∧ FnOk P w K mg base (L2N.CX P w) k f fd ps (PSpR K cs Rel)
theorem CallX.mk {P : Program} {w : World} {K : PySem.W.Frag} {mg : Str → Option Value} {base : Heap} {cs : Nat → Addr} {x : Str} {k : Nat} {Rel : List D → Nat → Prop} {f : Addr} {fd : FuncData} {ps : List Str} (F : FnOk P w K mg base (L2N.CX P w) k f fd ps (PSpR K cs Rel)) (hm : mg x = some (.ref f)) (kp : PySem.W.keepIn K (.ref f) = true) (hb : Binds K fd ps []) : CallX P w K mg base cs x k Rel := ⟨f, fd, ps, hm, kp, hb, F⟩
section
variable {X : Cx} {C : Addr} {env : Env} {m ma mb : Md} {a b e : Expr} {da db d : D} {pos : Pos} {ds : List D} {P : Post} {rest : List Stmt} {cs : Nat → Addr}
theorem dr_call {x : Str} {p : Pos} {es : List Expr} {k j i : Nat} {Rel : List D → Nat → Prop} (c : CallX X.prog X.w X.K X.mg X.base cs x k Rel) (hr : Room j X.A) (ha : DA X env .any (e :: es) ds) (h : Rel ds i) (hk : k ≤ j := by decide) (hg : Gl X x := by rfl)
    (hdb : (x == ("__debug__" : Str)) = false := by decide) (he : starEach (e :: es) X.env = (false, eval e X.env) :: starEach es X.env := by rfl) (hpl : (backTo pos (starEach es X.env)).any (·.1) = false := by rfl) :
    DRe X (cs i) env (.Call (.Name x p) (e :: es) [] pos) := fun H0 ps σ H E xr Q => by
  obtain ⟨f, fd, qs, hm, kp, hb, F⟩ := c
  exact (pe_callS F (hr.mono hk) hg hm kp hb (fun σ => L2N.passAt xr σ) pw_A hdb he hpl).w (ha H0 ps σ H E _ fun vs H1 s1 r1 => ⟨ds, i, r1, h, fun H' sm => ⟨rfl, rfl, (E.same.trans s1).trans sm⟩⟩)
theorem dra_cons {es : List Expr} (h : DRe X C env e) (he : starEach (e :: es) X.env = (false, eval e X.env) :: starEach es X.env := by rfl) : DRa X C env (e :: es) := fun H0 ps σ H E xr Q => (pa_cons pw_E pw_A he).w (h H0 ps σ H E xr _)
theorem dr_argF {x : Str} {p : Pos} {es : List Expr} {k j : Nat} {Rel : List D → D → Prop} (c : CallOk X.prog X.w X.K X.mg X.base x k Rel) (hr : Room j X.A) (ha : DRa X C env (e :: es)) (hk : k ≤ j := by decide) (hg : Gl X x := by rfl)
    (hdb : (x == ("__debug__" : Str)) = false := by decide) (he : starEach (e :: es) X.env = (false, eval e X.env) :: starEach es X.env := by rfl) (hpl : (backTo pos (starEach es X.env)).any (·.1) = false := by rfl) :
    DRe X C env (.Call (.Name x p) (e :: es) [] pos) := fun H0 ps σ H E xr Q => by
  obtain ⟨CX, f, fd, qs, hx, hm, kp, hb, F⟩ := c
  exact (pe_call F (hr.mono hk) hg hm kp hb .nil (hx X rfl rfl) pw_A hdb he hpl).w (ha H0 ps σ H E xr _)
theorem dr_sum {x1 : Pos} (hc : X.calm = true) (ml : X.mg "sum" = none) (ha : DRa X C env [e]) (hg : Gl X "sum" := by rfl) (he : starEach (e :: []) X.env = (false, eval e X.env) :: starEach [] X.env := by rfl) (hpl : (backTo pos (starEach [] X.env)).any (·.1) = false := by rfl) :
    DRe X C env (.Call (.Name "sum" x1) [e] [] pos) := fun H0 ps σ H E xr Q => (pe_callB (cr_sum hc) hg ml (by decide +kernel) pw_A (by decide) (by decide) he hpl).w (ha H0 ps σ H E xr _)
theorem dr_lc {elt tg : Expr} {ifs : List Expr} {scope : Scope} {own : List (Str × Nat)} (hc : X.calm = true) (hN : X.N.Nodup) (ok : blkC X.N X.env.scope scope own = true) (h : DRe X C env e) (hs : ∀ x, foldedSetIterable e X.env x = pure x := by intro _; rfl) :
    DRe X C env (.ListComp elt [⟨tg, e, ifs, 0⟩] scope pos) := fun H0 ps σ H E xr Q =>
  (pe_lc (g := wGb X scope tg) (tt := wTsb X scope ifs) (te := wEb X scope elt) hc hN (pi_list pw_E) (blkOk_by ok) (fun s H C c fp => ⟨fun pins s' σ H v u Q I r h => (h _ _ _ _ _).run pins s' u I r⟩) (fun s H C c fp => ⟨fun pins s' σ H Q I h => (h _ _ _ _ _).run pins s' I⟩)
    (fun s H C c fp => ⟨fun pins s' σ H Q I h => (h _ _ _ _ _).run pins s' I⟩) hs).w (h H0 ps σ H E xr _)
theorem dr_ite {c : Expr} {k : Bool} (h : DT X env c k) (h1 : k = true → DRe X C env a) (h2 : k = false → DRe X C env b) : DRe X C env (.IfExp c a b pos) := fun H0 ps σ H E xr Q =>
  (pe_ifExp pw_T pw_E pw_E).w (h H0 ps σ H E _ fun H1 s1 => by
    cases k with
    | true => exact h1 rfl H0 ps σ H1 (E.mono s1) xr Q
    | false => exact h2 rfl H0 ps σ H1 (E.mono s1) xr Q)
theorem drs_of {st : Stmt} {t : TS} (h : PS X st t) (q : ∀ H0 ps σ H, EnvR X.K H0 ps env σ H → ps.length = env.2.length → XR X C H0 → ∀ De : Ends, t { De with nx := wSs X rest De } σ H) : DRs X C env (st :: rest) := fun H0 ps σ H E l xr De =>
  (pss_cons h pw_Ss).w (q H0 ps σ H E l xr De)
theorem drs_setR (i : Nat) {x : Str} {p : Pos} (hN : X.N.Nodup) (h : DRe X C env e) (hi : X.N[i]? = some x := by rfl) (hx : Loc X.env.scope x := by first | exact Or.inl rfl | exact Or.inr rfl) (hs : swapsWith e (some (.Name x p)) pos.line X.env = pure false := by rfl)
    (hf : X.fn x = true ∨ X.env.scope.names.lookup x = some .local := by first | exact .inl rfl | exact .inr rfl) : DRs X C env (.Assign [.Name x p] e pos :: rest) := drs_of (ps_set hN hi hx pw_E hs hf) fun H0 ps σ H E l xr De => h H0 ps σ H E xr _
theorem drs_set (i : Nat) {x : Str} {p : Pos} (hN : X.N.Nodup) (h : DM X env m e d) (h2 : DRs X C (env.1.set i (slotOf m d), env.2) rest) (hi : X.N[i]? = some x := by rfl) (hx : Loc X.env.scope x := by first | exact Or.inl rfl | exact Or.inr rfl) (hs : swapsWith e (some (.Name x p)) pos.line X.env = pure false := by rfl)
    (hf : X.fn x = true ∨ X.env.scope.names.lookup x = some .local := by first | exact .inl rfl | exact .inr rfl) : DRs X C env (.Assign [.Name x p] e pos :: rest) := drs_of (ps_set hN hi hx pw_E hs hf) fun H0 ps σ H E l xr De =>
  h H0 ps σ H E _ fun v H1 s1 r1 => ⟨fun pins s I => by
    have li := len_set I hi
    exact (h2 H0 ps _ H1 ((E.mono s1).put li (slotOf_ok r1)) l xr De).run pins s I⟩
theorem drs_retR (h : DRe X C env e) : DRs X C env (.Return (some e) pos :: rest) := drs_of (ps_ret pw_E) fun H0 ps σ H E l xr De => h H0 ps σ H E xr _
theorem drs_exprR (h : DRe X C env e) (hs : swapsWith e none pos.line X.env = pure false := by rfl) : DRs X C env (.Expr e pos :: rest) := drs_of (ps_expr pw_E hs) fun H0 ps σ H E l xr De => h H0 ps σ H E xr _
theorem drs_expr (h : DM X env m e d) (h2 : DRs X C env rest) (hs : swapsWith e none pos.line X.env = pure false := by rfl) : DRs X C env (.Expr e pos :: rest) := drs_of (ps_expr pw_E hs) fun H0 ps σ H E l xr De => h H0 ps σ H E _ fun v H1 s1 r1 => h2 H0 ps σ H1 (E.mono s1) l xr De
theorem drs_if1 {c : Expr} {A : List Stmt} {k : Bool} (h : DT X env c k) (h1 : k = true → DRs X C env A) (h2 : k = false → DRs X C env rest) : DRs X C env (.If c A [] pos :: rest) := drs_of (ps_if pw_T pw_Ss pw_Ss) fun H0 ps σ H E l xr De =>
  h H0 ps σ H E _ fun H1 s1 => by
    cases k with
    | true => exact h1 rfl H0 ps σ H1 (E.mono s1) l xr _
    | false => exact pss_nil.w (h2 rfl H0 ps σ H1 (E.mono s1) l xr De)
theorem drs_raise {x msg : Str} {j : Nat} {p p2 pos2 : Pos} {bmB : List Value} {B newId initId : String} (hc : X.calm = true) (F : ExcBaseFacts B newId initId bmB) (q : PySem.W.excIn X.K C bmB newId = true) (gC : X.mg x = some (.ref C)) (kC : PySem.W.keepIn X.K (.ref C) = true) (r : Raises X (.ref C)) (hg : Gl X x := by rfl)
    (hdb : (x == ("__debug__" : Str)) = false := by decide) : DRs X C env (.Raise (some (.Call (.Name x p) [.Constant (.str msg) j p2] [] pos)) none pos2 :: rest) := fun H0 ps σ H E l xr De =>
  (pss_cons (L2N.ps_raise hc xr (L2N.pmk_own F q gC kC r hg hdb)) pw_Ss).w ⟨rfl, rfl, E.same⟩
theorem drs_for {iter tg : Expr} {body : List Stmt} (n : Nat) (Pv : Nat → Env → Prop) (hp : PassesOwn (model X.prog X.w) X.A X.env X.xe) (hc : X.calm = true) (hi : DI X env m tg iter ds) (hn : n < ds.length) (h0 : Pv 0 env)
    (hs : ∀ (i : Nat) (d : D) (env' : Env), i < n → ds[i]? = some d → Pv i env' → ∃ env1 J, DG X env' m tg d env1 J ∧ env1.2.length = env'.2.length ∧ DSs X env1 body ⟨Pv (i + 1), fun _ => False, fun _ => False, Pv (i + 1)⟩)
    (hd : ∀ (d : D) (env' : Env), ds[n]? = some d → Pv n env' → ∃ env1 J, DG X env' m tg d env1 J ∧ env1.2.length = env'.2.length ∧ DRs X C env1 body)
    (hfs : ∀ x, foldedSetIterable iter X.env x = pure x := by intro _; rfl) : DRs X C env (.For tg iter body [] pos :: rest) := drs_of (ps_for hp hc pw_I pw_G pw_Ss hfs) fun H0 ps σ H E l xr De => by
  refine hi H0 ps σ H E _ fun J H1 s1 it => ?_
  refine ⟨fun i mm σ2 H2 => i + mm = n ∧ ∃ env' ps', Pv i env' ∧ EnvR X.K H0 ps' env' σ2 H2 ∧ ps'.length = env'.2.length ∧ Fr ps H1 ps' H2, ⟨n, by omega, env, ps, h0, E.mono s1, l, Fr.refl _ _⟩, ?_⟩
  rintro i mm σ2 H2 ⟨him, env', ps', pv', E2, l2, fr⟩
  have hi2 : i < ds.length := by omega
  have hg : ds[i]? = some ds[i] := List.getElem?_eq_getElem hi2
  by_cases hin : i < n
  · obtain ⟨env1, J', hG, hlen, hB⟩ := hs i _ env' hin hg pv'
    refine .inr ⟨it.go i ps' H2 _ E2.same fr hg, fun σ3 H3 => i + 1 + (mm - 1) = n ∧ ∃ env' ps', Pv (i + 1) env' ∧ EnvR X.K H0 ps' env' σ3 H3 ∧ ps'.length = env'.2.length ∧ Fr ps H1 ps' H3, fun σ3 H3 h => ⟨mm - 1, by omega, h⟩, fun x H3 hy => ?_⟩
    obtain ⟨s3, rx⟩ := it.yld i ps' H2 _ x H3 E2.same fr (fun p hp => by obtain ⟨_, o, h2, _⟩ := E2.mu p hp; exact ⟨o, h2⟩) hg hy
    refine hG H0 ps' σ2 H3 x (E2.mono s3) rx _ fun σ4 E4 _ => ?_
    exact hB H0 ps' σ4 H3 E4 (by rw [hlen]; exact l2) _ ⟨fun e p s h' q E' l' g => ⟨by omega, e, p, q, E', l', (fr.trans (Fr.of_same s3)).trans g⟩, fun _ _ _ z => z.elim, fun _ _ _ _ z => z.elim, fun e p s h' q E' l' g => ⟨by omega, e, p, q, E', l', (fr.trans (Fr.of_same s3)).trans g⟩⟩
  · have e : i = n := by omega
    subst e
    obtain ⟨env1, J', hG, hlen, hB⟩ := hd _ env' hg pv'
    refine .inr ⟨it.go i ps' H2 _ E2.same fr hg, fun _ _ => False, fun _ _ z => z.elim, fun x H3 hy => ?_⟩
    obtain ⟨s3, rx⟩ := it.yld i ps' H2 _ x H3 E2.same fr (fun p hp => by obtain ⟨_, o, h2, _⟩ := E2.mu p hp; exact ⟨o, h2⟩) hg hy
    exact hG H0 ps' σ2 H3 x (E2.mono s3) rx _ fun σ4 E4 _ => hB H0 ps' σ4 H3 E4 (by rw [hlen]; exact l2) xr _
end
theorem fn_okR {P : Program} {w : World} {K : PySem.W.Frag} {mg : Str → Option Value} {base : Heap} {cs : Nat → Addr} {x qual : Str} {st : Stmt} {f : Addr} {fd : FuncData} {N qs : List Str} {k : Nat} {Rel : List D → Nat → Prop} (F : Fun K x qual st f fd) (S : FnScope N qs (defScope st)) (hlen : ∀ ds i, Rel ds i → ds.length = qs.length)
    (body : ∀ (ds : List D) (i : Nat), Rel ds i → ∀ (cdv : Value) (A : Around) (outer : List PySem.Env) (s : Shared) (H : Hp) (E : XK), Room k (A.deeper (PyProof.Rows.envOfC qual (defScope st) s.heap.objs.size f cdv)) →
      DRs (cxOf (L2N.CX P w) P w K mg base N qual (defScope st) f cdv A outer s H E) (cs i) (startE N ds, []) (defBody st)) :
    FnOk P w K mg base (L2N.CX P w) (k + 1) f fd qs (PSpR K cs Rel) := by
  obtain ⟨oc, od, kV, doc, pm, an, cdv, ct, osl, rfl, lk, hcd⟩ := F.ex
  refine fn_of lk hcd S (fun vs H Q E h => ?_) fun A outer s H vs Q E hr h => ?_
  · obtain ⟨ds, i, h1, h2, _⟩ := h
    rw [RA.length h1]
    exact hlen ds i h2
  · obtain ⟨ds, i, h1, h2, h3⟩ := h
    refine ⟨_, pw_Ss, ?_⟩
    refine body ds i h2 cdv A outer s H E hr H [] _ H (env_start h1) rfl ?_ _
    refine L2N.Takes.imp (L2N.takes_of (X := cxOf (L2N.CX P w) P w K mg base N qual (defScope st) _ cdv A outer s H E) (E := E) rfl rfl rfl rfl) fun c d σ H' z => ?_
    obtain ⟨rfl, rfl, sm⟩ := z
    exact h3 H' sm
end DW
set_option Elab.async false
set_option linter.all false
set_option maxRecDepth 100000
set_option maxHeartbeats 2000000
namespace DW
open PySem PySem.Spec PyProof.Rows L2
theorem run_pin {P : Program} {w : World} {K : PySem.W.Frag} {mg : Str → Option Value} {base : Heap} {k : Nat} {x qual : Str} {st : Stmt} {f : Addr} {fd : FuncData} {N qs : List Str} (F : Fun K x qual st f fd) (S : FnScope N qs (defScope st))
    {A : Around} {outer : List PySem.Env} {s : Shared} {H : Hp} {args : Args} {us : List Value} {vs : List V} {Q : VK} {E : XK} {p : Addr × Obj} (hr : L2H.RoomH (k + 1) A) (hpin : L2H.PinOk outer H s p) (e0 : Env0 P w K mg base A outer s H) (hb : BindsTo s fd args (qs.zip us)) (r : Vals vs us) (hl : vs.length = qs.length)
    (hbody : ∀ cdv : Value, L2H.RoomH k (A.deeper (envOfC qual (defScope st) s.heap.objs.size f cdv)) → wSs (L2H.cxH CX0 P w K mg base N qual (defScope st) f cdv A outer s H E p).nox (defBody st) { nx := fun _ H' => Q .non H', rt := Q } (L2.start N vs) H) :
    codeAny (model P w) A (.call (.ref f) args) (CR CX0 outer P w H s Q E) s := by
  obtain ⟨oc, od, kV, doc, pm, an, cdv, ct, osl, rfl, lk, hcd⟩ := F.ex
  have kin : K.In s.heap := e0.mod.kin.keeps fun b o e => (e0.bs b o e).1
  have nl : s.heap.NoLimit := e0.mod.nolimit.keeps fun b o e => (e0.bs b o e).1
  have kinds : ∀ y ∈ qs.zip us, (defScope st).names.lookup y.1 = some .local ∨ ((defScope st).names.lookup y.1 = some .cell ∧ ((cellsFrom (s.heap.objs.size + 1) (defScope st).names []).lookup y.1).isSome = true) := by
    rintro ⟨n, v⟩ hy
    have mem := (List.of_mem_zip hy).1
    cases S.par n mem with
    | inl q => exact .inl q
    | inr q => exact .inr ⟨q, PySem.W.cellsFrom_some _ _ _ (.inl q)⟩
  refine codeAny_call_function hr.depth (kin _ _ lk) rfl S.co S.gen rfl (PySem.W.codeRec_of kin hcd) (hb _ _ _ _ ?_)
  refine wpAny_newFunctionEnv_cells S.kind kinds fun env he s1 ic => ?_
  subst he
  refine ⟨nl.keeps ic.toInCall.keep, codeAny_func ?_⟩
  have I := L2H.inv_startH (CX := CX0) (E := E) S hpin e0 hl r ic
  have body : PSs (L2H.cxH CX0 P w K mg base N qual (defScope st) f cdv A outer s H E p) (defBody st) (wSs (L2H.cxH CX0 P w K mg base N qual (defScope st) f cdv A outer s H E p).nox (defBody st)) := PSs.nox pw_Ss
  refine wpAny_mono (body.run [] s1 _ H _ I (hbody cdv (hr.deeper _))) (fun fl s' hs => ?_) fun _ _ z => z
  cases fl with
  | next => obtain ⟨σ', H', J, q⟩ := hs; exact ⟨.non, H', J.os, J.bare, J.base, J.hok, rfl, q⟩
  | ret u => obtain ⟨v, σ', H', J, rv, q⟩ := hs; exact ⟨v, H', J.os, J.bare, J.base, J.hok, rv, q⟩
  | brk => exact hs.elim fun _ z => z.elim fun _ y => y.2.elim
  | cont => exact hs.elim fun _ z => z.elim fun _ y => y.2.elim
end DW
namespace DW
open PySem PySem.Spec PyProof.Rows L2
section
variable {X : Cx} {env : Env} {m : Md} {e : Expr} {pos : Pos}
theorem call_isP {a C : Addr} {oe : Obj} (hp : (a, oe) ∈ X.pn) (G : ExcC X.K C) (hz : Zc (.ref C) none oe) (hf : ∃ vs, oe.data = .fields vs) : CallR X (.builtin "isinstance") (rIsE X.K C a) := by
  rintro pins s σ H xs us Q I r ⟨c, cv, b, rfl, hcv, e, q⟩
  have pin := (I.pin (a, oe) (List.mem_append_left _ hp)).1
  match us, r with
  | [u1, u2], .cons r1 (.cons r2 .nil) =>
    obtain rfl : u1 = Value.ref a := r1
    obtain rfl := hcv _ r2
    obtain ⟨vs, hv⟩ := hf
    have there : PySem.W.InstAt s.heap a oe C none := by
      cases oe with
      | mk oc od oda osl =>
        obtain ⟨h1, h2⟩ := hz
        cases h1
        cases h2
        cases hv
        exact ⟨pin, rfl, rfl, trivial⟩
    have kit := PySem.W.handS_kitx_exc (x := a) (ox := oe) G.hg G.hk G.hs G.hd G.ha G.hn G.ht G.hm
    exact PySem.W.kia_one kit I.kIn there e (fun z => nomatch z) fun tk => ⟨.bl b, H, I.kept (t' := tk) fun _ _ z => z, rfl, q⟩
theorem R.opqI {K : PySem.W.Frag} {b : Bool} {H : Hp} {v : V} {a : Addr} (h : R K b H v (.opq a)) : v = .ref a := by
  cases h with
  | opq _ => rfl
theorem dm_isE {a C C' : Addr} {oe : Obj} {x1 p2 : Pos} {T : Str} {k : Bool} (hp : (a, oe) ∈ X.pn) (G : ExcC X.K C) (hz : Zc (.ref C) none oe) (hf : ∃ vs, oe.data = .fields vs) (mi : X.mg "isinstance" = none) (mT : X.mg T = some (.ref C')) (hk : PySem.W.kitOne X.K (.ref C) (.ref C') = some k) (h : DM X env m e (.opq a)) (hg : Gl X "isinstance" := by rfl) (hgT : Gl X T := by rfl) (hdb : (T == ("__debug__" : Str)) = false := by decide)
    (he : starEach (e :: [.Name T p2]) X.env = (false, eval e X.env) :: starEach [.Name T p2] X.env := by rfl) (he2 : starEach (.Name T p2 :: []) X.env = (false, eval (.Name T p2) X.env) :: starEach [] X.env := by rfl) (hpl : (backTo pos (starEach [.Name T p2] X.env)).any (·.1) = false := by rfl) :
    DM X env .cl (.Call (.Name "isinstance" x1) [e, .Name T p2] [] pos) (.bl k) := fun H0 ps σ H E Q q =>
  (pe_callB (call_isP hp G hz hf) hg mi (by decide +kernel) (pa_cons pw_E (pa_cons (pe_glob (v := .ref C') hgT mT rfl hdb) pa_nil he2) he) (he := he) (hpl := hpl)).w (h H0 ps σ H E _ fun v H1 s1 r1 => by
    obtain rfl := R.opqI (RM.any (E.same.trans s1) r1)
    exact ⟨.ref C', .ref C', k, rfl, fun u z => z, hk, q _ H1 s1 (R.bl _)⟩)
theorem dm_isEB {a C : Addr} {oe : Obj} {x1 p2 : Pos} {T : Str} {n : String} {k : Bool} (hp : (a, oe) ∈ X.pn) (G : ExcC X.K C) (hz : Zc (.ref C) none oe) (hf : ∃ vs, oe.data = .fields vs) (mi : X.mg "isinstance" = none) (mT : X.mg T = none) (hT : bootBuiltins T = some (.type n)) (hk : PySem.W.kitOne X.K (.ref C) (.type n) = some k) (h : DM X env m e (.opq a)) (hg : Gl X "isinstance" := by rfl) (hgT : Gl X T := by rfl) (hn : T ≠ "__name__" := by decide) (hdb : (T == ("__debug__" : Str)) = false := by decide)
    (he : starEach (e :: [.Name T p2]) X.env = (false, eval e X.env) :: starEach [.Name T p2] X.env := by rfl) (he2 : starEach (.Name T p2 :: []) X.env = (false, eval (.Name T p2) X.env) :: starEach [] X.env := by rfl) (hpl : (backTo pos (starEach [.Name T p2] X.env)).any (·.1) = false := by rfl) :
    DM X env .cl (.Call (.Name "isinstance" x1) [e, .Name T p2] [] pos) (.bl k) := fun H0 ps σ H E Q q =>
  (pe_callB (call_isP hp G hz hf) hg mi (by decide +kernel) (pa_cons pw_E (pa_cons (pe_bltn (v := .ty n) hgT mT hT rfl hn hdb) pa_nil he2) he) (he := he) (hpl := hpl)).w (h H0 ps σ H E _ fun v H1 s1 r1 => by
    obtain rfl := R.opqI (RM.any (E.same.trans s1) r1)
    exact ⟨.ty n, .type n, k, rfl, fun u z => z, hk, q _ H1 s1 (R.bl _)⟩)
theorem dm_fn {x : Str} {f : Addr} (hm : X.mg x = some (.ref f)) (hg : Gl X x := by rfl) (hd : (x == ("__debug__" : Str)) = false := by decide) : DM X env .cl (.Name x pos) (.opq f) := fun H0 ps σ H E Q q =>
  (pe_glob (v := .ref f) hg hm rfl hd).w (q _ H (Same.refl H) (R.opq f))
end
end DW
set_option Elab.async false
set_option linter.all false
set_option maxRecDepth 100000
set_option maxHeartbeats 2000000
namespace DW
open PySem PySem.Spec PyProof.Rows L2
section
variable {X : Cx} {env : Env} {m ma mb : Md} {a b e : Expr} {da db d : D} {pos : Pos} {ds es' : List D} {P : Post} {rest : List Stmt}
theorem dm_dic0 : DM X env .cl (.Dict [] [] pos) (.dic []) := fun H0 ps σ H E Q q => pe_dnewK.w fun p hp => q _ _ (same_upd hp) (.dic (E.at_new hp) .nil)
theorem dm_listRng {x1 x2 p2 : Pos} {j : Int} (hc : X.calm = true) (ml : X.mg "list" = none) (mr : X.mg "range" = none) (h : DM X env m e (.int j)) (h0 : 0 ≤ j) (h1 : j ≤ 10000) (hg : Gl X "list" := by rfl) (hgr : Gl X "range" := by rfl)
    (na : starEach [e] X.env = (false, eval e X.env) :: starEach [] X.env := by rfl) (nb : starEach [.Call (.Name "range" x2) [e] [] p2] X.env = (false, eval (.Call (.Name "range" x2) [e] [] p2) X.env) :: starEach [] X.env := by rfl) :
    DM X env .cl (.Call (.Name "list" x1) [.Call (.Name "range" x2) [e] [] p2] [] pos) (iL ((List.range j.toNat).map fun i : Nat => (i : Int))) := fun H0 ps σ H E Q q =>
  (pe_listRg hc hg ml (prg_1 hgr mr pw_E na) nb).w (h H0 ps σ H E _ fun v H1 s1 r1 => by
    obtain rfl := r1.intI
    refine ⟨j, rfl, ?_, fun p hp => q _ _ (s1.trans (same_upd hp)) (.lst ((E.mono s1).at_new hp) ?_)⟩
    · exact RgOk.of_le (Int.le_refl _) (by omega) (by decide) h0
    · have e : rgV 0 j = ((List.range j.toNat).map fun i : Nat => (i : Int)).map V.int := by
        unfold rgV
        rw [List.map_map, Int.sub_zero]
        exact List.map_congr_left fun i _ => by show V.int (0 + (i : Int)) = V.int i; rw [Int.zero_add]
      rw [e]
      exact RA.ints)
def DNC (X : Cx) (env : Env) (e : Expr) (ds : List D) : Prop := ∀ (H0 : Hp) (ps : List Addr) (σ : L2.St) (H : Hp), EnvR X.K H0 ps env σ H → ∀ Q : VK, (∀ p xs H1, Same H H1 → H1 p = none → RA X.K false (er ps (cl H0 H1)) xs ds → Q (.ref p) (upd H1 p (.lst xs))) → wE X e σ H Q
theorem dnc_lst {es : List Expr} (h : DA X env .cl es ds) (hl : ds.length ≤ 100000 := by decide) : DNC X env (.List es pos) ds := fun H0 ps σ H E Q q =>
  (pe_lst pw_A).w (h H0 ps σ H E _ fun vs H1 s1 r1 => ⟨by rw [RMA.length (m := .cl) r1]; exact szl hl, fun p hp => q p vs H1 s1 hp r1⟩)
theorem dnc_catO (i : Nat) {j : Nat} {x : Str} {p : Pos} (hb : DM X env .cl b (.lst es')) (hl : ds.length + es'.length ≤ 100000) (hs : env.1[i]? = some (.own j) := by rfl) (ho : env.2[j]? = some (.lst ds) := by rfl) (hN : X.N[i]? = some x := by rfl) (hv : Vis X.env.scope x := by first | exact Or.inl rfl | exact Or.inr (Or.inl rfl) | exact Or.inr (Or.inr rfl)) (hd : (x == ("__debug__" : Str)) = false := by decide)
    (hcd : (x == ("__classdict__" : Str)) = false := by decide) : DNC X env (.BinOp (.Name x p) .Add b pos) (ds ++ es') := fun H0 ps σ H E Q q => by
  obtain ⟨p1, xs, h3, h4, h5, h6⟩ := E.ownLst hs ho
  refine (pe_op op_cat (pe_var hN hv hd hcd) pw_E).w ⟨_, h3, hb H0 ps σ H E _ fun v H1 s1 r1 => ?_⟩
  obtain ⟨p2, ys, rfl, k1, k2⟩ := RM.lstC r1
  exact ⟨p1, p2, xs, ys, rfl, rfl, s1 _ _ h5, k1, szl (by rw [RA.length h6, RA.length k2]; exact hl), fun t ht => q t _ H1 s1 ht (RA.append (RA.mono (ec_mono s1) id h6) k2)⟩
theorem ra_more {K : PySem.W.Frag} {H0 H : Hp} {ps : List Addr} {q : Addr} {xs : List V} {ds : List D} (hq : ∀ o, er ps (cl H0 H) q ≠ some o) (r : RA K false (er ps (cl H0 H)) xs ds) : RA K false (er (ps ++ [q]) (cl H0 H)) xs ds := by
  refine RA.mono (fun t u e1 => ?_) id r
  have ne : t ≠ q := fun z => hq u (by rw [← z]; exact e1)
  unfold er at e1 ⊢
  split at e1
  · cases e1
  · rename_i z
    rw [if_neg fun y => ?_]
    · exact e1
    · rcases List.mem_append.mp y with y | y
      · exact z y
      · exact ne (by simpa using y)
theorem dss_setNC (i : Nat) {x : Str} {p : Pos} (hN : X.N.Nodup) (h : DNC X env e ds) (h2 : DSs X (env.1.set i (.own env.2.length), env.2 ++ [.lst ds]) rest P) (hi : X.N[i]? = some x := by rfl) (hx : Loc X.env.scope x := by first | exact Or.inl rfl | exact Or.inr rfl) (hs : swapsWith e (some (.Name x p)) pos.line X.env = pure false := by rfl)
    (hf : X.fn x = true ∨ X.env.scope.names.lookup x = some .local := by first | exact .inl rfl | exact .inr rfl) : DSs X env (.Assign [.Name x p] e pos :: rest) P := dss_of (ps_set hN hi hx pw_E hs hf) fun H0 ps σ H E l De ok =>
  h H0 ps σ H E _ fun q xs H1 s1 hq ra => ⟨fun pins s I => by
    have li := len_set I hi
    have s2 : Same H (upd H1 q (.lst xs)) := s1.trans (same_upd hq)
    have fresh : ∀ o, er ps (cl H0 H1) q ≠ some o := fun o z => by
      have := ec_le _ _ z
      rw [hq] at this
      cases this
    have E1 : EnvR X.K H0 (ps ++ [q]) (env.1, env.2 ++ [.lst ds]) σ (upd H1 q (.lst xs)) := E.addOwn l s2 (s1.free hq) upd_same trivial ⟨xs, upd_same, RA.mono (ec_mono (same_upd hq)) id (ra_more fresh ra)⟩
    have E2 : EnvR X.K H0 (ps ++ [q]) (env.1.set i (.own env.2.length), env.2 ++ [.lst ds]) (List.set σ i (some (.ref q))) (upd H1 q (.lst xs)) := E1.put li ⟨q, rfl, by rw [← l]; simp⟩
    exact (h2 H0 _ _ _ E2 (by simp [l]) De (ok.step (Fr.app s2 (s1.free hq)))).run pins s I⟩
theorem dss_appC (i : Nat) {j : Nat} {x : Str} {p apos cpos : Pos} {d : D} (h : DM X env .cl e d) (h2 : DSs X (env.1, env.2.set j (.lst (ds ++ [d]))) rest P) (hl : ds.length < 100000) (hs : env.1[i]? = some (.own j) := by rfl) (ho : env.2[j]? = some (.lst ds) := by rfl) (hN : X.N[i]? = some x := by rfl) (hv : Vis X.env.scope x := by first | exact Or.inl rfl | exact Or.inr (Or.inl rfl) | exact Or.inr (Or.inr rfl)) (hd : (x == ("__debug__" : Str)) = false := by decide)
    (hcd : (x == ("__classdict__" : Str)) = false := by decide) (hbase : attributeBase (.Name x p) "append" X.env (eval (.Name x p) X.env) = eval (.Name x p) X.env := by rfl)
    (hfew : ((backTo cpos (starEach (e :: []) X.env)).all (fun x => !x.1) && (backToKw cpos (keywordEach [] X.env)).all (fun x => x.1.isSome) && decide ((e :: []).length + ([] : List Keyword).length + (if ([] : List Keyword).isEmpty then 0 else 1) < 30)) = true := by rfl)
    (hline : (apos.endLine == cpos.line) = true := by rfl) (hst : starEach (e :: []) X.env = (false, eval e X.env) :: starEach [] X.env := by rfl) (hplain : (backTo cpos (starEach [] X.env)).any (·.1) = false := by rfl)
    (hsw : swapsWith (.Call (.Attribute (.Name x p) "append" apos) [e] [] cpos) none pos.line X.env = pure false := by rfl) :
    DSs X env (.Expr (.Call (.Attribute (.Name x p) "append" apos) [e] [] cpos) pos :: rest) P := dss_of (ps_expr (pe_bm PySem.F.plainAttrs_list PySem.F.slot_list_append PySem.F.type_list_append mt_append (pe_var hN hv hd hcd) (pa_cons pw_E pa_nil hst) hbase hfew hline hst hplain) hsw) fun H0 ps σ H E l De ok => by
  obtain ⟨q, xs, h3, h4, h5, h6⟩ := E.ownLst hs ho
  refine ⟨_, h3, .inl ⟨rfl, xs, SqL.of h5⟩, h H0 ps σ H E _ fun v H1 s1 r1 => ?_⟩
  have E1 := E.mono s1
  refine ⟨q, xs, v, rfl, rfl, s1 _ _ h5, szlt (by rw [RA.length h6]; exact hl), ⟨fun pins s I => ?_⟩⟩
  have hq : q ∈ ps := List.mem_of_getElem? h4
  have ra : RA X.K false (er ps (cl H0 H1)) (xs ++ [v]) (ds ++ [d]) := RA.snoc (RA.mono (ec_mono s1) id h6) r1
  exact (h2 H0 ps σ _ (E1.pokeOwn h4 (o := .lst (xs ++ [v])) trivial ⟨xs ++ [v], upd_same, by rw [ec_poke hq]; exact ra⟩) (by simp [l]) De (ok.step ((Fr.of_same s1).trans (Fr.poke hq)))).run pins s I
end
end DW
set_option Elab.async false
set_option linter.all false
set_option maxRecDepth 100000
set_option maxHeartbeats 1000000
namespace MP
open PySem PySem.Spec L2 DW
abbrev PP := List (Int × Int)
def keys (l : PP) : List Int := l.map (·.1)
def cnt (l : PP) (k : Int) : Int := ((l.find? fun p => decide (p.1 = k)).map (·.2)).getD 0
def tot (l : PP) (k : Int) : Int := ((l.filter fun p => decide (p.1 = k)).map (·.2)).sum
def kvI (ps : PP) : List (Int × D) := ps.map fun p => (p.1, D.int p.2)
def addP : PP → Int × Int → PP
  | [], p => [p]
  | q :: r, p => if q.1 = p.1 then (q.1, q.2 + p.2) :: r else q :: addP r p
def accP (ps : PP) : PP := ps.foldl addP []
theorem kvI_keys (ps : PP) : (kvI ps).map (·.1) = keys ps := by unfold kvI keys; rw [List.map_map]; rfl
theorem cnt_cons (q : Int × Int) (r : PP) (k : Int) : cnt (q :: r) k = if q.1 = k then q.2 else cnt r k := by
  unfold cnt
  rw [List.find?_cons]
  by_cases h : q.1 = k <;> simp [h]
theorem tot_cons (q : Int × Int) (r : PP) (k : Int) : tot (q :: r) k = (if q.1 = k then q.2 else 0) + tot r k := by
  unfold tot
  rw [List.filter_cons]
  by_cases h : q.1 = k <;> simp [h]
theorem tot_nil (k : Int) : tot [] k = 0 := rfl
theorem cnt_nil (k : Int) : cnt [] k = 0 := rfl
theorem tot_append (a b : PP) (k : Int) : tot (a ++ b) k = tot a k + tot b k := by
  unfold tot
  rw [List.filter_append, List.map_append, List.sum_append]
theorem cnt_no {l : PP} {k : Int} (h : k ∉ keys l) : cnt l k = 0 := by
  induction l with
  | nil => rfl
  | cons q r ih =>
    rw [cnt_cons, if_neg (fun z => h (by rw [← z]; exact List.mem_cons_self ..)), ih fun z => h (List.mem_cons_of_mem _ z)]
theorem tot_no {l : PP} {k : Int} (h : k ∉ keys l) : tot l k = 0 := by
  induction l with
  | nil => rfl
  | cons q r ih =>
    rw [tot_cons, if_neg (fun z => h (by rw [← z]; exact List.mem_cons_self ..)), ih fun z => h (List.mem_cons_of_mem _ z)]; rfl
theorem cnt_tot {l : PP} (h : (keys l).Nodup) (k : Int) : cnt l k = tot l k := by
  induction l with
  | nil => rfl
  | cons q r ih =>
    have h' := List.nodup_cons.mp (show (q.1 :: keys r).Nodup from h)
    rw [cnt_cons, tot_cons, ih h'.2]
    by_cases e : q.1 = k
    · rw [if_pos e, if_pos e, tot_no (by rw [← e]; exact h'.1)]; omega
    · rw [if_neg e, if_neg e]; omega
theorem mem_addP (l : PP) (p : Int × Int) (k : Int) : k ∈ keys (addP l p) ↔ k ∈ keys l ∨ k = p.1 := by
  induction l with
  | nil => simp [addP, keys]
  | cons q r ih =>
    rw [addP]
    by_cases e : q.1 = p.1
    · rw [if_pos e]
      show k ∈ q.1 :: keys r ↔ k ∈ q.1 :: keys r ∨ k = p.1
      constructor
      · exact .inl
      · rintro (h | h)
        · exact h
        · rw [h, ← e]; exact List.mem_cons_self ..
    · rw [if_neg e]
      show k ∈ q.1 :: keys (addP r p) ↔ k ∈ q.1 :: keys r ∨ k = p.1
      rw [List.mem_cons, List.mem_cons, ih, or_assoc]
theorem nodup_addP {l : PP} (p : Int × Int) (h : (keys l).Nodup) : (keys (addP l p)).Nodup := by
  induction l with
  | nil => simp [addP, keys]
  | cons q r ih =>
    have h' := List.nodup_cons.mp (show (q.1 :: keys r).Nodup from h)
    rw [addP]
    by_cases e : q.1 = p.1
    · rw [if_pos e]; exact h
    · rw [if_neg e]
      show (q.1 :: keys (addP r p)).Nodup
      refine List.nodup_cons.mpr ⟨fun z => ?_, ih h'.2⟩
      rcases (mem_addP r p q.1).mp z with z | z
      · exact h'.1 z
      · exact e z
theorem tot_addP (l : PP) (p : Int × Int) (k : Int) : tot (addP l p) k = tot l k + if p.1 = k then p.2 else 0 := by
  induction l with
  | nil => rw [addP, tot_cons, tot_nil]; omega
  | cons q r ih =>
    rw [addP]
    by_cases e : q.1 = p.1
    · rw [if_pos e, tot_cons, tot_cons]
      show (if q.1 = k then q.2 + p.2 else 0) + _ = _
      rw [← e]
      split <;> omega
    · rw [if_neg e, tot_cons, tot_cons, ih]; omega
theorem look_kvI : ∀ (l : PP) (k : Int), (k ∈ keys l → lookD (kvI l) k = some (.int (cnt l k))) ∧ (k ∉ keys l → lookD (kvI l) k = none)
  | [], k => ⟨fun h => by simp [keys] at h, fun _ => rfl⟩
  | q :: r, k => by
    have ih := look_kvI r k
    have e1 : lookD (kvI (q :: r)) k = if q.1 = k then some (.int q.2) else lookD (kvI r) k := by
      unfold lookD
      show ((((q.1, D.int q.2) :: kvI r).find? fun p => decide (p.1 = k)).map (·.2)) = _
      rw [List.find?_cons]
      by_cases h : q.1 = k <;> simp [h]
    rw [e1, cnt_cons]
    by_cases h : q.1 = k
    · rw [if_pos h, if_pos h]
      exact ⟨fun _ => rfl, fun z => absurd (show k ∈ q.1 :: keys r by rw [h]; exact List.mem_cons_self ..) z⟩
    · rw [if_neg h, if_neg h]
      refine ⟨fun z => ih.1 ?_, fun z => ih.2 fun y => z (List.mem_cons_of_mem _ y)⟩
      rcases List.mem_cons.mp (show k ∈ q.1 :: keys r from z) with y | y
      · exact absurd y.symm h
      · exact y
theorem get0 (l : PP) (k : Int) : (lookD (kvI l) k).getD (.int 0) = .int (cnt l k) := by
  by_cases h : k ∈ keys l
  · rw [(look_kvI l k).1 h]; rfl
  · rw [(look_kvI l k).2 h, cnt_no h]; rfl
theorem map_same {l : PP} {k : Int} {d : D} (h : k ∉ keys l) : (kvI l).map (fun q => if q.1 = k then (q.1, d) else q) = kvI l := by
  conv => rhs; rw [← List.map_id' (kvI l)]
  refine List.map_congr_left fun q hq => ?_
  obtain ⟨p, hp, rfl⟩ := List.mem_map.mp hq
  exact if_neg fun z => h (List.mem_map.mpr ⟨p, hp, z⟩)
theorem put_kvI {l : PP} (h : (keys l).Nodup) (p : Int × Int) : putD (kvI l) p.1 (.int (cnt l p.1 + p.2)) = kvI (addP l p) := by
  induction l with
  | nil =>
    show [(p.1, D.int (0 + p.2))] = [(p.1, D.int p.2)]
    rw [Int.zero_add]
  | cons q r ih =>
    have h' := List.nodup_cons.mp (show (q.1 :: keys r).Nodup from h)
    show putD ((q.1, D.int q.2) :: kvI r) _ _ = _
    rw [putD, addP, cnt_cons]
    by_cases e : q.1 = p.1
    · rw [if_pos e, if_pos e, if_pos e]
      rw [e] at h' ⊢
      rw [map_same h'.1]; rfl
    · rw [if_neg e, if_neg e, if_neg e, ih h'.2]; rfl
theorem accP_snoc {ps : PP} {i : Nat} {p : Int × Int} (h : ps[i]? = some p) : accP (ps.take (i + 1)) = addP (accP (ps.take i)) p := by
  obtain ⟨hi, rfl⟩ := List.getElem?_eq_some_iff.mp h
  unfold accP
  rw [List.take_succ_eq_append_getElem hi, List.foldl_append]; rfl
theorem foldl_facts : ∀ (ps l : PP), (keys l).Nodup → (keys (ps.foldl addP l)).Nodup ∧ (∀ k, k ∈ keys (ps.foldl addP l) ↔ k ∈ keys l ∨ k ∈ keys ps) ∧ (∀ k, tot (ps.foldl addP l) k = tot l k + tot ps k) ∧ (ps.foldl addP l).length ≤ l.length + ps.length
  | [], l, h => ⟨h, fun k => by simp [keys], fun k => by rw [tot_nil]; show tot l k = _; omega, Nat.le_refl _⟩
  | p :: ps, l, h => by
    obtain ⟨a, b, c, d⟩ := foldl_facts ps (addP l p) (nodup_addP p h)
    refine ⟨a, fun k => ?_, fun k => ?_, ?_⟩
    · show k ∈ keys (ps.foldl addP (addP l p)) ↔ _
      rw [b k, mem_addP]
      show _ ↔ k ∈ keys l ∨ k ∈ p.1 :: keys ps
      rw [List.mem_cons, or_assoc]
    · show tot (ps.foldl addP (addP l p)) k = _
      rw [c k, tot_addP, tot_cons]; omega
    · have e : (addP l p).length ≤ l.length + 1 := by
        clear a b c d h
        induction l with
        | nil => exact Nat.le_refl _
        | cons q r ih =>
          rw [addP]
          split
          · exact Nat.le_succ _
          · simp only [List.length_cons]; omega
      show (ps.foldl addP (addP l p)).length ≤ _
      rw [List.length_cons]; omega
theorem acc_nodup (ps : PP) : (keys (accP ps)).Nodup := (foldl_facts ps [] (by simp [keys])).1
theorem acc_mem (ps : PP) (k : Int) : k ∈ keys (accP ps) ↔ k ∈ keys ps := by
  have := (foldl_facts ps [] (by simp [keys])).2.1 k
  unfold accP
  rw [this]; simp [keys]
theorem acc_cnt (ps : PP) (k : Int) : cnt (accP ps) k = tot ps k := by
  rw [cnt_tot (acc_nodup ps)]
  have := (foldl_facts ps [] (by simp [keys])).2.2.1 k
  unfold accP
  rw [this, tot_nil]; omega
theorem acc_len (ps : PP) : (accP ps).length ≤ ps.length := by
  have := (foldl_facts ps [] (by simp [keys])).2.2.2
  simpa [accP] using this
def putP (ps : PP) : PP := (sortD (keys ps)).reverse.map fun k => (k, tot ps k)
def FallP (ps : PP) : Prop := (keys ps).Pairwise (· > ·)
theorem put_keys (ps : PP) : keys (putP ps) = (sortD (keys ps)).reverse := by
  unfold putP keys
  rw [List.map_map]
  exact List.map_id' _
theorem put_fall (ps : PP) : FallP (putP ps) := by
  unfold FallP
  rw [put_keys, List.pairwise_reverse]
  exact sortD_pw _
theorem put_mem (ps : PP) (k : Int) : k ∈ keys (putP ps) ↔ k ∈ keys ps := by
  rw [put_keys, List.mem_reverse, mem_sortD]
theorem fall_nodup {ps : PP} (h : FallP ps) : (keys ps).Nodup := List.Pairwise.imp (fun h => (Int.ne_of_lt h).symm) h
theorem cnt_at {ps : PP} (h : (keys ps).Nodup) {p : Int × Int} (hp : p ∈ ps) : cnt ps p.1 = p.2 := by
  induction ps with
  | nil => cases hp
  | cons q r ih =>
    have h' := List.nodup_cons.mp (show (q.1 :: keys r).Nodup from h)
    rw [cnt_cons]
    rcases List.mem_cons.mp hp with rfl | hp
    · rw [if_pos rfl]
    · rw [if_neg fun z => h'.1 (by rw [z]; exact List.mem_map.mpr ⟨p, hp, rfl⟩), ih h'.2 hp]
theorem put_cnt (ps : PP) (k : Int) : cnt (putP ps) k = tot ps k := by
  by_cases h : k ∈ keys ps
  · have m : (k, tot ps k) ∈ putP ps := List.mem_map.mpr ⟨k, by rw [List.mem_reverse, mem_sortD]; exact h, rfl⟩
    exact cnt_at (fall_nodup (put_fall ps)) m
  · rw [cnt_no (fun z => h ((put_mem ps k).mp z)), tot_no h]
theorem fall_ext : ∀ {a b : PP}, FallP a → FallP b → (∀ p ∈ a, p.2 ≠ 0) → (∀ p ∈ b, p.2 ≠ 0) → (∀ k, cnt a k = cnt b k) → a = b := by
  intro a b ha hb pa pb h
  have km : ∀ {l : PP}, FallP l → (∀ p ∈ l, p.2 ≠ 0) → ∀ k, k ∈ keys l ↔ cnt l k ≠ 0 := fun {l} hl pl k => by
    constructor
    · intro m
      obtain ⟨p, hp, rfl⟩ := List.mem_map.mp m
      rw [cnt_at (fall_nodup hl) hp]
      exact pl p hp
    · intro z
      by_cases m : k ∈ keys l
      · exact m
      · exact absurd (cnt_no m) z
  have back : ∀ {l : PP}, FallP l → (keys l).map (fun k => (k, cnt l k)) = l := fun {l} hl => by
    unfold keys
    rw [List.map_map]
    conv => rhs; rw [← List.map_id' l]
    refine List.map_congr_left fun p hp => ?_
    show (p.1, cnt l p.1) = p
    rw [cnt_at (fall_nodup hl) hp]
  have ek : keys a = keys b := by
    have r1 : (keys a).reverse.Pairwise (· < ·) := by rw [List.pairwise_reverse]; exact ha
    have r2 : (keys b).reverse.Pairwise (· < ·) := by rw [List.pairwise_reverse]; exact hb
    have := pw_uniq r1 r2 fun k => by rw [List.mem_reverse, List.mem_reverse, km ha pa, km hb pb, h k]
    rw [← List.reverse_reverse (keys a), this, List.reverse_reverse]
  rw [← back ha, ← back hb, ek]
  exact List.map_congr_left fun k _ => by rw [h k]
end MP
set_option Elab.async false
set_option linter.all false
set_option maxRecDepth 100000
set_option maxHeartbeats 1000000
namespace KX
open PySem PySem.Spec L2 DW MP
def sumOf (ps : PP) : Int := (ps.map fun p => p.1 * p.2).sum
def oftOf (ps : PP) : Int := (ps.map fun p => p.2).sum
theorem put_same {ps : PP} (h : FallP ps) (hp : ∀ p ∈ ps, 0 < p.2) : putP ps = ps := by
  refine fall_ext (put_fall ps) h (fun p hm => ?_) (fun p hm => Int.ne_of_gt (hp p hm)) fun k => by rw [put_cnt, cnt_tot (fall_nodup h)]
  obtain ⟨k, hk, rfl⟩ := List.mem_map.mp hm
  rw [List.mem_reverse, mem_sortD] at hk
  show tot ps k ≠ 0
  obtain ⟨p, hp', rfl⟩ := List.mem_map.mp hk
  rw [← cnt_tot (fall_nodup h), cnt_at (fall_nodup h) hp']
  exact Int.ne_of_gt (hp p hp')
theorem perm_sum : ∀ {l m : List Int}, l.Perm m → l.sum = m.sum := by
  intro l m h
  induction h with
  | nil => rfl
  | cons x _ ih => rw [List.sum_cons, List.sum_cons, ih]
  | swap x y l => rw [List.sum_cons, List.sum_cons, List.sum_cons, List.sum_cons]; omega
  | trans _ _ i1 i2 => exact i1.trans i2
theorem tot_perm {l m : PP} (h : l.Perm m) (k : Int) : tot l k = tot m k := by
  unfold tot
  exact perm_sum ((h.filter fun p => decide (p.1 = k)).map (·.2))
theorem sum_perm {l m : PP} (h : l.Perm m) : sumOf l = sumOf m := perm_sum (h.map _)
theorem sum_app (l m : PP) : sumOf (l ++ m) = sumOf l + sumOf m := by
  unfold sumOf
  rw [List.map_append, List.sum_append]
theorem sum_cons (p : Int × Int) (l : PP) : sumOf (p :: l) = p.1 * p.2 + sumOf l := by
  unfold sumOf
  rw [List.map_cons, List.sum_cons]
theorem sum_addP (p : Int × Int) : ∀ l : PP, sumOf (addP l p) = sumOf l + p.1 * p.2
  | [] => by rw [addP, sum_cons]; show _ + 0 = 0 + _; omega
  | q :: r => by
    rw [addP]
    by_cases e : q.1 = p.1
    · rw [if_pos e, sum_cons, sum_cons]
      show q.1 * (q.2 + p.2) + _ = _
      rw [Int.mul_add, e]; omega
    · rw [if_neg e, sum_cons, sum_cons, sum_addP p r]; omega
theorem sum_foldl : ∀ (ps l : PP), sumOf (ps.foldl addP l) = sumOf l + sumOf ps
  | [], l => by show _ = _ + 0; show sumOf l = _; omega
  | p :: ps, l => by
    show sumOf (ps.foldl addP (addP l p)) = _
    rw [sum_foldl ps, sum_addP, sum_cons]; omega
theorem sort_perm_keys {l : List Int} (h : l.Nodup) : (sortD l).reverse.Perm l := by
  refine (List.reverse_perm _).trans ((List.perm_ext_iff_of_nodup (List.Pairwise.imp (fun h => Int.ne_of_lt h) (sortD_pw l)) h).mpr fun k => mem_sortD k l)
theorem put_perm {l : PP} (h : (keys l).Nodup) : (putP l).Perm l := by
  have e : (keys l).map (fun k => (k, tot l k)) = l := by
    unfold keys
    rw [List.map_map]
    conv => rhs; rw [← List.map_id' l]
    refine List.map_congr_left fun p hp => ?_
    show (p.1, tot l p.1) = p
    rw [← cnt_tot h, cnt_at h hp]
  conv => rhs; rw [← e]
  exact (sort_perm_keys h).map _
theorem put_congr {l m : PP} (hk : ∀ k, k ∈ keys l ↔ k ∈ keys m) (ht : ∀ k, tot l k = tot m k) : putP l = putP m := by
  unfold putP
  have e : sortD (keys l) = sortD (keys m) := pw_uniq (sortD_pw _) (sortD_pw _) fun k => by rw [mem_sortD, mem_sortD, hk]
  rw [e]
  exact List.map_congr_left fun k _ => by rw [ht]
theorem put_acc_perm (l : PP) : (putP l).Perm (accP l) := by
  have e : putP l = putP (accP l) := put_congr (fun k => (acc_mem l k).symm) fun k => by rw [← cnt_tot (acc_nodup l), acc_cnt]
  rw [e]
  exact put_perm (acc_nodup l)
theorem sum_put (l : PP) : sumOf (putP l) = sumOf l := by
  rw [sum_perm (put_acc_perm l)]
  unfold accP
  rw [sum_foldl]
  show 0 + _ = _
  omega
theorem tot_le {l : PP} {M : Int} (h : ∀ p ∈ l, 0 ≤ p.2 ∧ p.2 ≤ M) (k : Int) : tot l k ≤ (l.length : Int) * M := by
  induction l with
  | nil => rw [tot_nil]; show (0 : Int) ≤ 0 * M; omega
  | cons q l ih =>
    have i1 := ih fun p hp => h p (List.mem_cons_of_mem _ hp)
    obtain ⟨h1, h2⟩ := h q (List.mem_cons_self ..)
    rw [tot_cons, List.length_cons, Int.natCast_add, Int.add_mul]
    show _ ≤ _ + 1 * M
    split <;> omega
def BG : Int := 2 ^ 500
theorem bg_ib : ib BG ≤ 501 := by
  refine ib_le ?_
  decide +kernel
theorem bg_nn : 1 < BG := by decide +kernel
theorem bg_200 : (2 ^ 200 * 2 ^ 200) * 64 < BG := by decide +kernel
theorem bg_201 : 2 ^ 201 < BG := by decide +kernel
theorem pos_sum {l : PP} (h : ∀ p ∈ l, 0 < p.1 ∧ 0 < p.2) : 0 ≤ sumOf l ∧ ∀ p ∈ l, p.1 * p.2 ≤ sumOf l := by
  induction l with
  | nil => exact ⟨Int.le_refl _, fun p hp => by cases hp⟩
  | cons q l ih =>
    obtain ⟨i1, i2⟩ := ih fun p hp => h p (List.mem_cons_of_mem _ hp)
    obtain ⟨h1, h2⟩ := h q (List.mem_cons_self ..)
    have := Int.mul_pos h1 h2
    rw [sum_cons]
    refine ⟨by omega, fun p hp => ?_⟩
    rcases List.mem_cons.mp hp with rfl | hp
    · omega
    · have := i2 p hp; omega
theorem le_prod {p : Int × Int} (h : 0 < p.1 ∧ 0 < p.2) : p.1 ≤ p.1 * p.2 ∧ p.2 ≤ p.1 * p.2 := by
  have h1 : p.1 * 1 ≤ p.1 * p.2 := Int.mul_le_mul_of_nonneg_left (by omega) (by omega)
  have h2 : 1 * p.2 ≤ p.1 * p.2 := Int.mul_le_mul_of_nonneg_right (by omega) (by omega)
  omega
theorem sum_le {l : PP} {M : Int} (h : ∀ p ∈ l, p.1 * p.2 ≤ M) : sumOf l ≤ (l.length : Int) * M := by
  induction l with
  | nil => show (0 : Int) ≤ 0 * M; omega
  | cons q l ih =>
    have i1 := ih fun p hp => h p (List.mem_cons_of_mem _ hp)
    have := h q (List.mem_cons_self ..)
    rw [sum_cons, List.length_cons, Int.natCast_add, Int.add_mul]
    show _ ≤ _ + 1 * M
    omega
theorem put_len (l : PP) : (putP l).length ≤ l.length := by
  rw [(put_acc_perm l).length_eq]
  exact acc_len l
theorem tot_pos {l : PP} (h : ∀ p ∈ l, 0 < p.2) (k : Int) : 0 ≤ tot l k ∧ (k ∈ keys l → 0 < tot l k) := by
  induction l with
  | nil => exact ⟨Int.le_refl _, fun y => by cases y⟩
  | cons q l ih =>
    obtain ⟨i1, i2⟩ := ih fun p hp => h p (List.mem_cons_of_mem _ hp)
    have hq := h q (List.mem_cons_self ..)
    rw [tot_cons]
    refine ⟨by split <;> omega, fun y => ?_⟩
    by_cases e : q.1 = k
    · rw [if_pos e]; omega
    · rw [if_neg e]
      have : k ∈ keys l := by
        rcases List.mem_cons.mp y with y | y
        · exact absurd y.symm e
        · exact y
      have := i2 this
      omega
theorem put_pos {l : PP} (h : ∀ p ∈ l, 0 < p.1 ∧ 0 < p.2) : ∀ p ∈ putP l, 0 < p.1 ∧ 0 < p.2 := fun p hp => by
  have mk : p.1 ∈ keys l := (put_mem _ _).mp (List.mem_map.mpr ⟨p, hp, rfl⟩)
  have e := cnt_at (fall_nodup (put_fall l)) hp
  rw [put_cnt] at e
  obtain ⟨q, hq, e2⟩ := List.mem_map.mp mk
  refine ⟨by rw [← e2]; exact (h q hq).1, ?_⟩
  rw [← e]
  exact (tot_pos (fun p hp => (h p hp).2) _).2 mk
theorem max_ex : ∀ l : List Int, l ≠ [] → ∃ m, m ∈ l ∧ ∀ y ∈ l, y ≤ m
  | [], h => absurd rfl h
  | [x], _ => ⟨x, by simp, fun y hy => by
    have : y = x := by simpa using hy
    omega⟩
  | x :: z :: l, _ => by
    obtain ⟨m, h1, h2⟩ := max_ex (z :: l) (by simp)
    by_cases h : x ≤ m
    · refine ⟨m, List.mem_cons_of_mem _ h1, fun y hy => ?_⟩
      rcases List.mem_cons.mp hy with rfl | hy
      · exact h
      · exact h2 y hy
    · refine ⟨x, List.mem_cons_self .., fun y hy => ?_⟩
      rcases List.mem_cons.mp hy with rfl | hy
      · omega
      · have := h2 y hy; omega
end KX
set_option Elab.async false
set_option linter.all false
set_option maxRecDepth 100000
set_option maxHeartbeats 1000000
namespace KX
open PySem PySem.Spec L2 DW MP
def hdP (t : Int) : PP → Int
  | [] => t
  | p :: _ => p.1
def colT (t : Int) : Int → PP → PP
  | _, [] => []
  | h, p :: r => (h + p.2, p.1 - hdP t r) :: colT t (h + p.2) r
def colP (ps : PP) : PP := (colT 0 0 ps).reverse
def cntS (ps : PP) : Int := (ps.map (·.2)).sum
theorem cntS_cons (p : Int × Int) (r : PP) : cntS (p :: r) = p.2 + cntS r := by unfold cntS; rw [List.map_cons, List.sum_cons]
theorem hdP_app (t : Int) (a b : PP) : hdP t (a ++ b) = hdP (hdP t b) a := by cases a <;> rfl
theorem colT_app (t : Int) : ∀ (h : Int) (a b : PP), colT t h (a ++ b) = colT (hdP t b) h a ++ colT t (h + cntS a) b
  | h, [], b => by
    show _ = [] ++ _
    rw [List.nil_append]
    show _ = colT t (h + 0) b
    rw [Int.add_zero]
  | h, p :: a, b => by
    show (h + p.2, p.1 - hdP t (a ++ b)) :: colT t (h + p.2) (a ++ b) = _
    rw [colT_app t (h + p.2) a b, hdP_app, cntS_cons, ← Int.add_assoc]; rfl
theorem colT_len (t : Int) : ∀ (h : Int) (a : PP), (colT t h a).length = a.length
  | _, [] => rfl
  | h, p :: r => by
    show (colT t (h + p.2) r).length + 1 = r.length + 1
    rw [colT_len]
theorem col_len (ps : PP) : (colP ps).length = ps.length := by unfold colP; rw [List.length_reverse, colT_len]
theorem col_two : ∀ (ps : PP) (h : Int) (T : PP), hdP 0 T = h → colT 0 0 ((colT 0 h ps).reverse ++ T) = ps.reverse ++ colT 0 (hdP 0 ps) T
  | [], h, T, e => rfl
  | p :: r, h, T, e => by
    show colT 0 0 (((h + p.2, p.1 - hdP 0 r) :: colT 0 (h + p.2) r).reverse ++ T) = _
    rw [List.reverse_cons, List.append_assoc]
    rw [col_two r (h + p.2) ([(h + p.2, p.1 - hdP 0 r)] ++ T) rfl, List.reverse_cons, List.append_assoc]
    congr 1
    show (hdP 0 r + (p.1 - hdP 0 r), h + p.2 - hdP 0 T) :: colT 0 (hdP 0 r + (p.1 - hdP 0 r)) T = _
    rw [e, show hdP 0 r + (p.1 - hdP 0 r) = p.1 by omega, show h + p.2 - h = p.2 by omega]; rfl
theorem col_col (ps : PP) : colP (colP ps) = ps := by
  have := col_two ps 0 [] rfl
  unfold colP
  rw [List.append_nil] at this
  rw [this]
  show (ps.reverse ++ []).reverse = ps
  rw [List.append_nil, List.reverse_reverse]
theorem col_sumT : ∀ (ps : PP) (h : Int), sumOf (colT 0 h ps) = sumOf ps + h * hdP 0 ps
  | [], h => by show (0 : Int) = 0 + h * 0; omega
  | p :: r, h => by
    show sumOf ((h + p.2, p.1 - hdP 0 r) :: colT 0 (h + p.2) r) = _
    rw [sum_cons, col_sumT r, sum_cons]
    show (h + p.2) * (p.1 - hdP 0 r) + (sumOf r + (h + p.2) * hdP 0 r) = p.1 * p.2 + sumOf r + h * p.1
    rw [Int.mul_sub, Int.add_mul h p.2 p.1, Int.mul_comm p.2 p.1]; omega
theorem col_sum (ps : PP) : sumOf (colP ps) = sumOf ps := by
  unfold colP
  rw [sum_perm (List.reverse_perm _), col_sumT]; omega
theorem fall_tail {p : Int × Int} {r : PP} (h : FallP (p :: r)) : FallP r ∧ (∀ q ∈ r, q.1 < p.1) := by
  unfold FallP keys at h
  rw [List.map_cons, List.pairwise_cons] at h
  exact ⟨h.2, fun q hq => h.1 _ (List.mem_map.mpr ⟨q, hq, rfl⟩)⟩
theorem col_ok : ∀ (ps : PP) (h : Int), FallP ps → (∀ p ∈ ps, 0 < p.1 ∧ 0 < p.2) → ((colT 0 h ps).map (·.1)).Pairwise (· < ·) ∧ (∀ q ∈ colT 0 h ps, h < q.1 ∧ 0 < q.2 ∧ q.1 ≤ h + cntS ps)
  | [], h, _, _ => ⟨List.Pairwise.nil, fun q hq => by cases hq⟩
  | p :: r, h, f, pos => by
    obtain ⟨f1, f2⟩ := fall_tail f
    obtain ⟨p1, p2⟩ := pos p (List.mem_cons_self ..)
    obtain ⟨i1, i2⟩ := col_ok r (h + p.2) f1 fun q hq => pos q (List.mem_cons_of_mem _ hq)
    have cs : 0 ≤ cntS r := by
      have : ∀ l : PP, (∀ q ∈ l, 0 < q.2) → 0 ≤ cntS l := by
        intro l
        induction l with
        | nil => intro _; exact Int.le_refl _
        | cons q l ih =>
          intro hl
          have := ih fun x hx => hl x (List.mem_cons_of_mem _ hx)
          have := hl q (List.mem_cons_self ..)
          rw [cntS_cons]; omega
      exact this r fun q hq => (pos q (List.mem_cons_of_mem _ hq)).2
    have hd : hdP 0 r < p.1 := by
      cases r with
      | nil => exact p1
      | cons q r => exact f2 q (List.mem_cons_self ..)
    refine ⟨?_, fun q hq => ?_⟩
    · show ((h + p.2) :: (colT 0 (h + p.2) r).map (·.1)).Pairwise (· < ·)
      rw [List.pairwise_cons]
      refine ⟨fun a ha => ?_, i1⟩
      obtain ⟨q, hq, rfl⟩ := List.mem_map.mp ha
      exact (i2 q hq).1
    · rw [cntS_cons]
      rcases List.mem_cons.mp hq with rfl | hq
      · exact ⟨by show h < h + p.2; omega, by show 0 < p.1 - hdP 0 r; omega, by show h + p.2 ≤ _; omega⟩
      · have := i2 q hq
        omega
theorem col_fall {ps : PP} (f : FallP ps) (pos : ∀ p ∈ ps, 0 < p.1 ∧ 0 < p.2) : FallP (colP ps) := by
  unfold FallP keys colP
  rw [List.map_reverse, List.pairwise_reverse]
  exact (col_ok ps 0 f pos).1
theorem col_pos {ps : PP} (f : FallP ps) (pos : ∀ p ∈ ps, 0 < p.1 ∧ 0 < p.2) : ∀ p ∈ colP ps, 0 < p.1 ∧ 0 < p.2 := fun p hp => by
  have := (col_ok ps 0 f pos).2 p (List.mem_reverse.mp hp)
  omega
def rowsP (ps : PP) : List Int := ps.flatMap fun p => List.replicate p.2.toNat p.1
theorem rowsP_app (a b : PP) : rowsP (a ++ b) = rowsP a ++ rowsP b := by unfold rowsP; rw [List.flatMap_append]
def tallN (ps : PP) (k : Int) : Int := cntS (ps.filter fun p => decide (k < p.1))
theorem tall_cons (p : Int × Int) (r : PP) (k : Int) : tallN (p :: r) k = (if k < p.1 then p.2 else 0) + tallN r k := by
  unfold tallN
  rw [List.filter_cons]
  by_cases h : k < p.1
  · rw [if_pos (decide_eq_true h), if_pos h, cntS_cons]
  · rw [if_neg (by simpa using h), if_neg h]; omega
theorem rows_col : ∀ (ps : PP) (h : Int), FallP ps → (∀ p ∈ ps, 0 < p.1 ∧ 0 < p.2) → rowsP ((colT 0 h ps).reverse) = (List.range (hdP 0 ps).toNat).map fun k : Nat => h + tallN ps (k : Int)
  | [], h, _, _ => rfl
  | p :: r, h, f, pos => by
    obtain ⟨f1, f2⟩ := fall_tail f
    obtain ⟨p1, p2⟩ := pos p (List.mem_cons_self ..)
    have ih := rows_col r (h + p.2) f1 fun q hq => pos q (List.mem_cons_of_mem _ hq)
    have hd : 0 ≤ hdP 0 r ∧ hdP 0 r < p.1 ∧ ∀ q ∈ r, q.1 ≤ hdP 0 r := by
      cases r with
      | nil => exact ⟨Int.le_refl _, p1, fun q hq => by cases hq⟩
      | cons q r =>
        refine ⟨Int.le_of_lt (pos q (by simp)).1, f2 q (List.mem_cons_self ..), fun z hz => ?_⟩
        rcases List.mem_cons.mp hz with rfl | hz
        · exact Int.le_refl _
        · exact Int.le_of_lt ((fall_tail f1).2 z hz)
    show rowsP (((h + p.2, p.1 - hdP 0 r) :: colT 0 (h + p.2) r).reverse) = _
    rw [List.reverse_cons, rowsP_app, ih]
    have e : (hdP 0 (p :: r)).toNat = (hdP 0 r).toNat + (p.1 - hdP 0 r).toNat := by
      show p.1.toNat = _
      omega
    rw [e, List.range_add, List.map_append]
    congr 1
    · refine List.map_congr_left fun k hk => ?_
      have := List.mem_range.mp hk
      rw [tall_cons, if_pos (by omega)]; omega
    · rw [List.map_map]
      show ([(h + p.2, p.1 - hdP 0 r)] : PP).flatMap _ = _
      rw [List.flatMap_singleton]
      symm
      refine List.eq_replicate_iff.mpr ⟨by simp, fun x hx => ?_⟩
      obtain ⟨k, hk, rfl⟩ := List.mem_map.mp hx
      have hk' := List.mem_range.mp hk
      have z : tallN r (((hdP 0 r).toNat + k : Nat) : Int) = 0 := by
        unfold tallN
        rw [List.filter_eq_nil_iff.mpr]; rfl
        intro q hq
        have := hd.2.2 q hq
        simp; omega
      show h + tallN (p :: r) (((hdP 0 r).toNat + k : Nat) : Int) = h + p.2
      rw [tall_cons, z, if_pos (by omega)]; omega
theorem tall_rows : ∀ (ps : PP) (k : Int), (∀ p ∈ ps, 0 < p.2) → (((rowsP ps).filter fun x => decide (k < x)).length : Int) = tallN ps k
  | [], k, _ => rfl
  | p :: r, k, pos => by
    have p2 := pos p (List.mem_cons_self ..)
    have ih := tall_rows r k fun q hq => pos q (List.mem_cons_of_mem _ hq)
    have e : rowsP (p :: r) = List.replicate p.2.toNat p.1 ++ rowsP r := by unfold rowsP; rw [List.flatMap_cons]
    rw [e, List.filter_append, List.length_append, tall_cons, Int.natCast_add, ih]
    congr 1
    by_cases h : k < p.1
    · rw [if_pos h, List.filter_replicate, if_pos (decide_eq_true h), List.length_replicate]; omega
    · rw [if_neg h, List.filter_replicate, if_neg (by simpa using h)]; rfl
end KX
set_option Elab.async false
set_option linter.all false
set_option maxRecDepth 100000
set_option maxHeartbeats 1000000
namespace KX
open PySem PySem.Spec L2 DW MP
def mk1 (row : List Int) : PP := row.map fun x => (x, 1)
def RL : List Int → PP
  | [] => []
  | x :: r => match RL r with
    | [] => [(x, 1)]
    | q :: t => if x = q.1 then (q.1, q.2 + 1) :: t else (x, 1) :: q :: t
def DownL (r : List Int) : Prop := r.Pairwise (· ≥ ·)
theorem RL_cons (x : Int) (r : List Int) : (∃ q t, RL r = q :: t ∧ x = q.1 ∧ RL (x :: r) = (q.1, q.2 + 1) :: t) ∨ ((∀ q t, RL r = q :: t → x ≠ q.1) ∧ RL (x :: r) = (x, 1) :: RL r) := by
  rw [RL]
  cases h : RL r with
  | nil => exact .inr ⟨fun q t e => (by cases e), rfl⟩
  | cons q t =>
    by_cases e : x = q.1
    · exact .inl ⟨q, t, rfl, e, if_pos e⟩
    · refine .inr ⟨fun q' t' e' => ?_, if_neg e⟩
      cases e'; exact e
theorem RL_keys : ∀ (r : List Int) (k : Int), k ∈ keys (RL r) ↔ k ∈ r
  | [], k => by simp [RL, keys]
  | x :: r, k => by
    have ih := RL_keys r k
    rcases RL_cons x r with ⟨q, t, h1, h2, h3⟩ | ⟨_, h3⟩
    · rw [h3, List.mem_cons, ← ih, h1]
      subst h2
      simp [keys]
    · rw [h3, List.mem_cons, ← ih]
      simp [keys]
theorem RL_pos : ∀ (r : List Int), ∀ p ∈ RL r, 0 < p.2
  | [], p, h => by cases h
  | x :: r, p, h => by
    have ih := RL_pos r
    rcases RL_cons x r with ⟨q, t, h1, h2, h3⟩ | ⟨_, h3⟩
    · rw [h3] at h
      rcases List.mem_cons.mp h with rfl | h
      · have := ih q (by rw [h1]; simp)
        show 0 < q.2 + 1
        omega
      · exact ih p (by rw [h1]; exact List.mem_cons_of_mem _ h)
    · rw [h3] at h
      rcases List.mem_cons.mp h with rfl | h
      · show (0 : Int) < 1; omega
      · exact ih p h
theorem RL_tot : ∀ (r : List Int) (k : Int), tot (RL r) k = tot (mk1 r) k
  | [], k => rfl
  | x :: r, k => by
    have ih := RL_tot r k
    have e : mk1 (x :: r) = (x, 1) :: mk1 r := rfl
    rcases RL_cons x r with ⟨q, t, h1, h2, h3⟩ | ⟨_, h3⟩
    · rw [h1, tot_cons] at ih
      rw [h3, e, tot_cons, tot_cons, ← ih, h2]
      show (if q.1 = k then q.2 + 1 else 0) + tot t k = (if q.1 = k then 1 else 0) + _
      split <;> omega
    · rw [h3, e, tot_cons, tot_cons, ih]
theorem RL_rows : ∀ (r : List Int), rowsP (RL r) = r
  | [] => rfl
  | x :: r => by
    have ih := RL_rows r
    have rc : ∀ (p : Int × Int) (l : PP), rowsP (p :: l) = List.replicate p.2.toNat p.1 ++ rowsP l := fun p l => by unfold rowsP; rw [List.flatMap_cons]
    rcases RL_cons x r with ⟨q, t, h1, h2, h3⟩ | ⟨_, h3⟩
    · have q2 := RL_pos r q (by rw [h1]; simp)
      rw [h1, rc] at ih
      rw [h3, rc]
      show List.replicate (q.2 + 1).toNat q.1 ++ rowsP t = x :: r
      rw [show (q.2 + 1).toNat = q.2.toNat + 1 by omega, List.replicate_succ, List.cons_append, ih, h2]
    · rw [h3, rc, ih]; rfl
theorem RL_cnt : ∀ (r : List Int), cntS (RL r) = r.length
  | [] => rfl
  | x :: r => by
    have ih := RL_cnt r
    rcases RL_cons x r with ⟨q, t, h1, h2, h3⟩ | ⟨_, h3⟩
    · rw [h1, cntS_cons] at ih
      rw [h3, cntS_cons, List.length_cons]
      show q.2 + 1 + cntS t = ((r.length + 1 : Nat) : Int)
      omega
    · rw [h3, cntS_cons, ih, List.length_cons]
      show (1 : Int) + r.length = ((r.length + 1 : Nat) : Int)
      omega
theorem RL_sum : ∀ (r : List Int), sumOf (RL r) = r.sum
  | [] => rfl
  | x :: r => by
    have ih := RL_sum r
    rcases RL_cons x r with ⟨q, t, h1, h2, h3⟩ | ⟨_, h3⟩
    · rw [h1, sum_cons] at ih
      rw [h3, sum_cons, List.sum_cons, ← ih, h2]
      show q.1 * (q.2 + 1) + _ = _
      rw [Int.mul_add]; omega
    · rw [h3, sum_cons, ih, List.sum_cons]
      show x * 1 + _ = _
      omega
theorem RL_fall : ∀ {r : List Int}, DownL r → FallP (RL r)
  | [], _ => List.Pairwise.nil
  | x :: r, h => by
    have h' := List.pairwise_cons.mp h
    have ih := RL_fall h'.2
    rcases RL_cons x r with ⟨q, t, h1, h2, h3⟩ | ⟨h0, h3⟩
    · rw [h1] at ih
      rw [h3]
      exact ih
    · rw [h3]
      unfold FallP keys at ih ⊢
      rw [List.map_cons, List.pairwise_cons]
      refine ⟨fun k hk => ?_, ih⟩
      have hk' : k ∈ keys (RL r) := hk
      have le := h'.1 k ((RL_keys r k).mp hk')
      show k < x
      cases e : RL r with
      | nil => rw [e] at hk; cases hk
      | cons q t =>
        have ne := h0 q t e
        have qm : q.1 ∈ r := (RL_keys r q.1).mp (by rw [e]; simp [keys])
        have := h'.1 q.1 qm
        rw [e] at hk' ih
        rcases List.mem_cons.mp hk' with rfl | hk2
        · show q.1 < x
          have : q.1 ≤ x := this
          omega
        · have h5 : k < q.1 := (List.pairwise_cons.mp ih).1 k hk2
          have : q.1 ≤ x := this
          omega
theorem RL_shift (n : Int) : ∀ (r : List Int), RL (r.map fun x => x - n) = (RL r).map fun q => (q.1 - n, q.2)
  | [] => rfl
  | x :: r => by
    have ih := RL_shift n r
    rw [List.map_cons, RL, ih, RL]
    cases h : RL r with
    | nil => rfl
    | cons q t =>
      show (if x - n = q.1 - n then (q.1 - n, q.2 + 1) :: t.map _ else (x - n, 1) :: (q.1 - n, q.2) :: t.map _) = _
      by_cases e : x = q.1
      · rw [if_pos (by omega)]
        show _ = List.map _ (if x = q.1 then (q.1, q.2 + 1) :: t else (x, 1) :: q :: t)
        rw [if_pos e]; rfl
      · rw [if_neg (by omega)]
        show _ = List.map _ (if x = q.1 then (q.1, q.2 + 1) :: t else (x, 1) :: q :: t)
        rw [if_neg e]; rfl
theorem addP_fall {l : PP} {p : Int × Int} (h : FallP l) (hp : ∀ k ∈ keys l, p.1 ≤ k) : FallP (addP l p) := by
  induction l with
  | nil => unfold FallP keys; simp [addP]
  | cons q r ih =>
    obtain ⟨f1, f2⟩ := fall_tail h
    rw [addP]
    by_cases e : q.1 = p.1
    · rw [if_pos e]; exact h
    · rw [if_neg e]
      have i := ih f1 fun k hk => hp k (List.mem_cons_of_mem _ hk)
      unfold FallP keys at i ⊢
      rw [List.map_cons, List.pairwise_cons]
      refine ⟨fun k hk => ?_, i⟩
      have hk' := (mem_addP r p k).mp hk
      show k < q.1
      rcases hk' with hk' | rfl
      · obtain ⟨z, hz, rfl⟩ := List.mem_map.mp hk'
        exact f2 z hz
      · have := hp q.1 (List.mem_cons_self ..)
        omega
theorem acc_fall : ∀ (r : List Int) (l : PP), DownL r → FallP l → (∀ x ∈ r, ∀ k ∈ keys l, x ≤ k) → FallP ((mk1 r).foldl addP l)
  | [], l, _, h, _ => h
  | x :: r, l, d, h, hx => by
    have d' := List.pairwise_cons.mp d
    show FallP ((mk1 r).foldl addP (addP l (x, 1)))
    refine acc_fall r _ d'.2 (addP_fall h fun k hk => hx x (List.mem_cons_self ..) k hk) fun y hy k hk => ?_
    rcases (mem_addP l (x, 1) k).mp hk with hk | rfl
    · exact hx y (List.mem_cons_of_mem _ hy) k hk
    · exact d'.1 y hy
theorem acc_RL {r : List Int} (d : DownL r) : accP (mk1 r) = RL r := by
  have f : FallP (accP (mk1 r)) := acc_fall r [] d List.Pairwise.nil fun x _ k hk => by cases hk
  have c : ∀ k, cnt (accP (mk1 r)) k = cnt (RL r) k := fun k => by rw [acc_cnt, cnt_tot (fall_nodup (RL_fall d)), RL_tot]
  refine fall_ext f (RL_fall d) (fun p hp => ?_) (fun p hp => Int.ne_of_gt (RL_pos r p hp)) c
  rw [← cnt_at (fall_nodup f) hp, acc_cnt]
  have mk : p.1 ∈ keys (mk1 r) := (acc_mem _ _).mp (List.mem_map.mpr ⟨p, hp, rfl⟩)
  refine Int.ne_of_gt ((tot_pos (fun q hq => ?_) _).2 mk)
  obtain ⟨x, _, rfl⟩ := List.mem_map.mp hq
  show (0 : Int) < 1
  omega
def Dn : Int → List Int → PP
  | _, [] => []
  | h, x :: r => (if 0 < x - r.headD 0 then [(h + 1, x - r.headD 0)] else []) ++ Dn (h + 1) r
theorem dn_zero : ∀ (h : Int) (r : List Int), (∀ x ∈ r, x = 0) → Dn h r = []
  | _, [], _ => rfl
  | h, x :: r, z => by
    have h1 := z x (List.mem_cons_self ..)
    have h2 : r.headD 0 = 0 := by
      cases r with
      | nil => rfl
      | cons y r => exact z y (by simp)
    rw [Dn, h1, h2, if_neg (by omega), dn_zero _ r fun y hy => z y (List.mem_cons_of_mem _ hy)]; rfl
theorem RL_hd (x : Int) (r : List Int) : ∃ c t, RL (x :: r) = (x, c) :: t := by
  rcases RL_cons x r with ⟨q, t, h1, h2, h3⟩ | ⟨_, h3⟩
  · exact ⟨_, _, by rw [h3, h2]⟩
  · exact ⟨_, _, h3⟩
theorem col_dn : ∀ (r : List Int) (h : Int), DownL r → (∀ x ∈ r, 0 ≤ x) → colT 0 h ((RL r).filter fun q => decide (0 < q.1)) = Dn h r
  | [], h, _, _ => rfl
  | x :: r, h, d, nn => by
    have d' := List.pairwise_cons.mp d
    have ih := col_dn r (h + 1) d'.2 fun y hy => nn y (List.mem_cons_of_mem _ hy)
    by_cases x0 : x = 0
    · have z : ∀ y ∈ x :: r, y = 0 := fun y hy => by
        rcases List.mem_cons.mp hy with rfl | hy
        · exact x0
        · have := d'.1 y hy
          have := nn y (List.mem_cons_of_mem _ hy)
          omega
      rw [dn_zero h _ z, List.filter_eq_nil_iff.mpr]; rfl
      intro q hq
      have := z q.1 ((RL_keys _ _).mp (List.mem_map.mpr ⟨q, hq, rfl⟩))
      simp; omega
    · have xp : 0 < x := by have := nn x (List.mem_cons_self ..); omega
      rcases RL_cons x r with ⟨q, t, h1, h2, h3⟩ | ⟨h0, h3⟩
      · have hr : r.headD 0 = x := by
          cases r with
          | nil => rw [RL] at h1; cases h1
          | cons y r =>
            obtain ⟨c, t', e⟩ := RL_hd y r
            rw [e] at h1
            cases h1
            exact h2.symm
        rw [Dn, hr, if_neg (by omega), List.nil_append, ← ih, h1, h3, List.filter_cons, List.filter_cons, if_pos (by show decide (0 < q.1) = true; rw [← h2]; exact decide_eq_true xp), if_pos (by rw [← h2]; exact decide_eq_true xp)]
        show (h + (q.2 + 1), q.1 - _) :: colT 0 (h + (q.2 + 1)) _ = (h + 1 + q.2, q.1 - _) :: colT 0 (h + 1 + q.2) _
        rw [show h + (q.2 + 1) = h + 1 + q.2 by omega]
      · have hr : hdP 0 ((RL r).filter fun q => decide (0 < q.1)) = r.headD 0 ∧ 0 < x - r.headD 0 := by
          cases r with
          | nil => exact ⟨rfl, by show 0 < x - 0; omega⟩
          | cons y r =>
            obtain ⟨c, t', e⟩ := RL_hd y r
            have ne : x ≠ y := h0 _ _ e
            have le := d'.1 y (List.mem_cons_self ..)
            refine ⟨?_, by show 0 < x - y; omega⟩
            rw [e, List.filter_cons]
            by_cases y0 : 0 < y
            · rw [if_pos (decide_eq_true y0)]; rfl
            · rw [if_neg (by simpa using y0), List.filter_eq_nil_iff.mpr]
              · have := nn y (by simp)
                show (0 : Int) = y
                omega
              · intro q hq
                have hk : q.1 ∈ y :: r := (RL_keys _ _).mp (by rw [e]; exact List.mem_map.mpr ⟨q, List.mem_cons_of_mem _ hq, rfl⟩)
                have : q.1 ≤ y := by
                  rcases List.mem_cons.mp hk with z | z
                  · omega
                  · exact (List.pairwise_cons.mp d'.2).1 _ z
                simp; omega
        rw [Dn, if_pos hr.2, h3, List.filter_cons, if_pos (decide_eq_true xp)]
        show (h + 1, x - hdP 0 _) :: colT 0 (h + 1) _ = [(h + 1, _)] ++ _
        rw [hr.1, ih]; rfl
end KX
set_option Elab.async false
set_option linter.all false
set_option maxRecDepth 100000
set_option maxHeartbeats 1000000
namespace KX
open PySem PySem.Spec L2 DW MP
def shP (n : Int) (ps : PP) : PP := ps.map fun q => (q.1 - n, q.2)
def foldR (rows : List Int) : PP := RL rows ++ colP (shP rows.length ((RL rows).filter fun q => decide ((rows.length : Int) < q.1)))
theorem right_eq (n : Int) (rows : List Int) : shP n ((RL rows).filter fun q => decide (n < q.1)) = (RL (rows.map fun x => x - n)).filter fun q => decide (0 < q.1) := by
  rw [RL_shift, List.filter_map]
  unfold shP
  congr 1
  refine List.filter_congr fun q _ => ?_
  show decide (n < q.1) = decide (0 < q.1 - n)
  exact decide_eq_decide.mpr (by omega)
structure RowsOk (rows : List Int) : Prop where
  down : DownL rows
  long : ∀ x ∈ rows, (rows.length : Int) ≤ x
theorem RowsOk.sdown {rows : List Int} (h : RowsOk rows) (n : Int) : DownL (rows.map fun x => x - n) := by
  unfold DownL
  rw [List.pairwise_map]
  exact h.down.imp fun h => by omega
theorem RowsOk.snn {rows : List Int} (h : RowsOk rows) : ∀ x ∈ rows.map (fun x => x - (rows.length : Int)), 0 ≤ x := fun x hx => by
  obtain ⟨y, hy, rfl⟩ := List.mem_map.mp hx
  have := h.long y hy
  omega
abbrev benR (rows : List Int) : PP := Dn 0 (rows.map fun x => x - (rows.length : Int))
theorem foldR_eq {rows : List Int} (h : RowsOk rows) : foldR rows = RL rows ++ (benR rows).reverse := by
  unfold foldR colP
  rw [right_eq, col_dn _ 0 (h.sdown _) h.snn]
theorem RowsOk.rfall {rows : List Int} (h : RowsOk rows) : FallP (RL rows) := RL_fall h.down
theorem filt_fall {ps : PP} (h : FallP ps) (t : Int × Int → Bool) : FallP (ps.filter t) := by
  unfold FallP keys at h ⊢
  exact h.sublist ((List.filter_sublist).map _)
theorem sh_fall {ps : PP} (h : FallP ps) (n : Int) : FallP (shP n ps) := by
  unfold FallP keys shP at *
  rw [List.map_map, List.pairwise_map]
  rw [List.pairwise_map] at h
  exact h.imp fun h => by show _ - n > _ - n; omega
theorem RowsOk.right {rows : List Int} (h : RowsOk rows) : FallP (shP rows.length ((RL rows).filter fun q => decide ((rows.length : Int) < q.1))) ∧ (∀ p ∈ shP rows.length ((RL rows).filter fun q => decide ((rows.length : Int) < q.1)), 0 < p.1 ∧ 0 < p.2) := by
  refine ⟨sh_fall (filt_fall h.rfall _) _, fun p hp => ?_⟩
  obtain ⟨q, hq, rfl⟩ := List.mem_map.mp hp
  obtain ⟨hq1, hq2⟩ := List.mem_filter.mp hq
  have := of_decide_eq_true hq2
  exact ⟨by show 0 < q.1 - _; omega, RL_pos rows q hq1⟩
theorem cnt_sh (n : Int) (ps : PP) : cntS (shP n ps) = cntS ps := by
  unfold cntS shP
  rw [List.map_map]; rfl
theorem RowsOk.low {rows : List Int} (h : RowsOk rows) : ∀ q ∈ colP (shP rows.length ((RL rows).filter fun q => decide ((rows.length : Int) < q.1))), 0 < q.1 ∧ 0 < q.2 ∧ q.1 ≤ (rows.length : Int) ∧ ∀ x ∈ rows, q.1 < x := fun q hq => by
  obtain ⟨c1, c2⟩ := h.right
  obtain ⟨a, b, c⟩ := (col_ok _ 0 c1 c2).2 q (List.mem_reverse.mp hq)
  rw [cnt_sh] at c
  have t := tall_rows (RL rows) rows.length (RL_pos rows)
  unfold tallN at t
  rw [RL_rows] at t
  have le := List.length_filter_le (fun x => decide ((rows.length : Int) < x)) rows
  refine ⟨a, b, by omega, fun x hx => ?_⟩
  have := h.long x hx
  by_cases e : (rows.length : Int) < x
  · omega
  · have lt : (rows.filter fun x => decide ((rows.length : Int) < x)).length < rows.length := by
      rcases Nat.lt_or_eq_of_le le with z | z
      · exact z
      · have := List.filter_eq_self.mp (List.Sublist.eq_of_length List.filter_sublist z) x hx
        exact absurd (of_decide_eq_true this) e
    omega
theorem RowsOk.fall {rows : List Int} (h : RowsOk rows) : FallP (foldR rows) := by
  obtain ⟨c1, c2⟩ := h.right
  have f1 := h.rfall
  have f2 := col_fall c1 c2
  unfold foldR
  unfold FallP keys at *
  rw [List.map_append, List.pairwise_append]
  refine ⟨f1, f2, fun a ha b hb => ?_⟩
  obtain ⟨q, hq, rfl⟩ := List.mem_map.mp hb
  exact (h.low q hq).2.2.2 a ((RL_keys rows a).mp ha)
theorem RowsOk.rpos {rows : List Int} (h : RowsOk rows) : ∀ p ∈ RL rows, 0 < p.1 ∧ 0 < p.2 := fun p hp => by
  have m := (RL_keys rows p.1).mp (List.mem_map.mpr ⟨p, hp, rfl⟩)
  have := h.long _ m
  have l : 0 < rows.length := List.length_pos_of_mem m
  exact ⟨by omega, RL_pos rows p hp⟩
theorem RowsOk.pos {rows : List Int} (h : RowsOk rows) : ∀ p ∈ foldR rows, 0 < p.1 ∧ 0 < p.2 := fun p hp => by
  rcases List.mem_append.mp hp with hp | hp
  · exact h.rpos p hp
  · have := h.low p hp
    exact ⟨this.1, this.2.1⟩
theorem fold_put {rows : List Int} (h : RowsOk rows) : putP (mk1 rows ++ benR rows) = foldR rows := by
  have pm : (foldR rows).Perm (RL rows ++ benR rows) := by
    rw [foldR_eq h]
    exact (List.Perm.refl _).append (List.reverse_perm _)
  have tt : ∀ k, tot (mk1 rows ++ benR rows) k = tot (foldR rows) k := fun k => by
    rw [tot_perm pm, tot_append, tot_append, RL_tot]
  have f := h.fall
  refine fall_ext (put_fall _) f (fun p hp => ?_) (fun p hp => Int.ne_of_gt (h.pos p hp).2) fun k => by rw [put_cnt, tt, cnt_tot (fall_nodup f)]
  refine Int.ne_of_gt (put_pos (fun q hq => ?_) p hp).2
  rcases List.mem_append.mp hq with hq | hq
  · obtain ⟨x, hx, rfl⟩ := List.mem_map.mp hq
    have := h.long x hx
    have l : 0 < rows.length := List.length_pos_of_mem hx
    exact ⟨by show 0 < x; omega, by show (0 : Int) < 1; omega⟩
  · exact h.pos q (pm.mem_iff.mpr (List.mem_append_right _ hq))
theorem sum_filt0 : ∀ {ps : PP}, (∀ p ∈ ps, 0 ≤ p.1) → sumOf (ps.filter fun q => decide (0 < q.1)) = sumOf ps
  | [], _ => rfl
  | p :: r, h => by
    have ih := sum_filt0 (ps := r) fun q hq => h q (List.mem_cons_of_mem _ hq)
    rw [List.filter_cons]
    by_cases z : 0 < p.1
    · rw [if_pos (decide_eq_true z), sum_cons, sum_cons, ih]
    · have : p.1 = 0 := by have := h p (List.mem_cons_self ..); omega
      rw [if_neg (by simpa using z), ih, sum_cons, this]; omega
theorem sum_sub (n : Int) : ∀ r : List Int, (r.map fun x => x - n).sum = r.sum - r.length * n
  | [] => by simp
  | x :: r => by
    rw [List.map_cons, List.sum_cons, sum_sub n r, List.sum_cons, List.length_cons, Int.natCast_add, Int.add_mul]
    show _ = x + r.sum - (_ + 1 * n)
    omega
theorem fold_sum {rows : List Int} (h : RowsOk rows) : sumOf (foldR rows) = 2 * rows.sum - rows.length * rows.length := by
  unfold foldR
  rw [sum_app, col_sum, RL_sum, right_eq, sum_filt0, RL_sum, sum_sub]
  · omega
  · intro p hp
    exact h.snn _ ((RL_keys _ _).mp (List.mem_map.mpr ⟨p, hp, rfl⟩))
theorem col_sh (n t : Int) : ∀ (h : Int) (A : PP), colT t h (shP n A) = colT (t + n) h A
  | _, [] => rfl
  | h, p :: r => by
    show (h + p.2, p.1 - n - hdP t (shP n r)) :: colT t (h + p.2) (shP n r) = (h + p.2, p.1 - hdP (t + n) r) :: colT (t + n) (h + p.2) r
    rw [col_sh n t (h + p.2) r]
    congr 2
    cases r with
    | nil => show p.1 - n - t = p.1 - (t + n); omega
    | cons q r => show p.1 - n - (q.1 - n) = p.1 - q.1; omega
theorem col_up (n t : Int) : ∀ (h : Int) (A : PP), colT t (h + n) A = (colT t h A).map fun q => (q.1 + n, q.2)
  | _, [] => rfl
  | h, p :: r => by
    show (h + n + p.2, _) :: colT t (h + n + p.2) r = (h + p.2 + n, _) :: (colT t (h + p.2) r).map _
    rw [show h + n + p.2 = h + p.2 + n by omega, col_up n t (h + p.2) r]
theorem col_hd (t : Int) : ∀ (h : Int) (A : PP), hdP h (colT t h A).reverse = h + cntS A
  | h, [] => by show h = h + 0; omega
  | h, p :: r => by
    show hdP h ((h + p.2, _) :: colT t (h + p.2) r).reverse = _
    rw [List.reverse_cons, hdP_app]
    show hdP (h + p.2) _ = _
    rw [col_hd t (h + p.2) r, cntS_cons]; omega
theorem part_fall {n : Int} : ∀ {l : PP}, FallP l → (∀ k ∈ keys l, n ≤ k) → ∃ B, l = (l.filter fun q => decide (n < q.1)) ++ B ∧ (B = [] ∨ ∃ c, B = [(n, c)])
  | [], _, _ => ⟨[], rfl, .inl rfl⟩
  | p :: r, f, h => by
    obtain ⟨f1, f2⟩ := fall_tail f
    by_cases z : n < p.1
    · obtain ⟨B, e, hB⟩ := part_fall f1 fun k hk => h k (List.mem_cons_of_mem _ hk)
      refine ⟨B, ?_, hB⟩
      rw [List.filter_cons, if_pos (decide_eq_true z), List.cons_append, ← e]
    · have pn : p.1 = n := by have := h p.1 (List.mem_cons_self ..); omega
      have rn : r = [] := by
        cases r with
        | nil => rfl
        | cons q r =>
          have := f2 q (List.mem_cons_self ..)
          have := h q.1 (by simp [keys])
          omega
      subst rn
      refine ⟨[p], ?_, .inr ⟨p.2, by rw [← pn]⟩⟩
      rw [List.filter_cons, if_neg (by simpa using z)]; rfl
theorem cnt_app (a b : PP) : cntS (a ++ b) = cntS a + cntS b := by
  unfold cntS
  rw [List.map_append, List.sum_append]
theorem fold_own {rows : List Int} (h : RowsOk rows) : colP (foldR rows) = foldR rows := by
  obtain ⟨n, hn⟩ : ∃ n : Int, n = rows.length := ⟨_, rfl⟩
  obtain ⟨B, e, hB⟩ := part_fall (n := n) h.rfall fun k hk => by
    have := h.long k ((RL_keys rows k).mp hk)
    omega
  have ct := RL_cnt rows
  unfold foldR
  rw [← hn] at ct ⊢
  generalize hA : ((RL rows).filter fun q => decide (n < q.1)) = A at e
  rw [e] at ct ⊢
  have hQ : colP (shP n A) = (colT n 0 A).reverse := by
    unfold colP
    rw [col_sh, Int.zero_add]
  have hdQ : hdP 0 (colP (shP n A)) = cntS A := by
    rw [hQ, col_hd]; omega
  have two : colP (colP (shP n A)) = shP n A := col_col _
  generalize hq : colP (shP n A) = Q at *
  rw [cnt_app] at ct
  have up : colT 0 n Q = A.reverse := by
    have h1 := col_up n 0 0 Q
    rw [Int.zero_add] at h1
    have h2 : colT 0 0 Q = (shP n A).reverse := by
      rw [← two]
      unfold colP
      rw [List.reverse_reverse]
    rw [h1, h2, List.map_reverse]
    unfold shP
    rw [List.map_map]
    congr 1
    conv => rhs; rw [← List.map_id' A]
    refine List.map_congr_left fun q _ => ?_
    show (q.1 - n + n, q.2) = q
    rw [Int.sub_add_cancel]
  unfold colP
  rw [List.append_assoc, colT_app, colT_app, Int.zero_add, hdQ, ct, up]
  have r1 : hdP 0 (B ++ Q) = n ∧ colT (cntS A) (cntS A) B = B := by
    rcases hB with rfl | ⟨c, rfl⟩
    · refine ⟨?_, rfl⟩
      rw [List.nil_append, hdQ]
      have : cntS [] = 0 := rfl
      omega
    · refine ⟨rfl, ?_⟩
      have : cntS [(n, c)] = c := by show c + 0 = c; omega
      show [(cntS A + c, n - cntS A)] = _
      rw [show cntS A + c = n by omega, show n - cntS A = c by omega]
  rw [r1.1, r1.2, List.reverse_append, List.reverse_append, List.reverse_reverse]
  have hB2 : B.reverse = B := by
    rcases hB with rfl | ⟨c, rfl⟩ <;> rfl
  rw [hB2, ← hQ, List.append_assoc]
end KX
set_option Elab.async false
set_option linter.all false
set_option maxRecDepth 100000
set_option maxHeartbeats 1000000
namespace KX
open PySem PySem.Spec L2 DW MP
abbrev T3 := Int × Int × Int
def midF : Int → PP → List T3
  | _, [] => []
  | b, p :: r => if b < min (b + p.2) p.1 then (p.1, b, min (b + p.2) p.1) :: midF (min (b + p.2) p.1) r else midF b r
def hookF (t : T3) : PP := (List.range (t.2.2 - t.2.1).toNat).map fun i : Nat => (2 * (t.1 - (t.2.1 + (i : Int))) - 1, 1)
def hookP (ps : PP) : PP := (midF 0 ps).flatMap hookF
def trip : Int → PP → List T3
  | _, [] => []
  | b, p :: r => (p.1, b, b + p.2) :: trip (b + p.2) r
theorem cnt_nn : ∀ {ps : PP}, (∀ p ∈ ps, 0 < p.2) → 0 ≤ cntS ps
  | [], _ => Int.le_refl _
  | p :: r, h => by
    have := cnt_nn (ps := r) fun q hq => h q (List.mem_cons_of_mem _ hq)
    have := h p (List.mem_cons_self ..)
    rw [cntS_cons]; omega
theorem mid_app : ∀ (A : PP) (b : Int) (Q : PP), (∀ p ∈ A, 0 < p.2 ∧ b + cntS A ≤ p.1) → midF b (A ++ Q) = trip b A ++ midF (b + cntS A) Q
  | [], b, Q, _ => by
    show midF b Q = [] ++ midF (b + 0) Q
    rw [Int.add_zero]; rfl
  | p :: r, b, Q, h => by
    obtain ⟨h1, h2⟩ := h p (List.mem_cons_self ..)
    rw [cntS_cons] at h2 h ⊢
    have nn := cnt_nn (ps := r) fun q hq => (h q (List.mem_cons_of_mem _ hq)).1
    have m : min (b + p.2) p.1 = b + p.2 := by omega
    rw [List.cons_append, midF, m, if_pos (by omega), mid_app r (b + p.2) Q fun q hq => by
      have := h q (List.mem_cons_of_mem _ hq)
      exact ⟨this.1, by omega⟩, trip, List.cons_append, ← Int.add_assoc]
theorem mid_low : ∀ (Q : PP) (b : Int), (∀ q ∈ Q, q.1 ≤ b) → midF b Q = []
  | [], _, _ => rfl
  | q :: r, b, h => by
    have := h q (List.mem_cons_self ..)
    rw [midF, if_neg (by omega)]
    exact mid_low r b fun x hx => h x (List.mem_cons_of_mem _ hx)
def hookG (x : Int × Nat) : Int × Int := (2 * (x.1 - (x.2 : Int)) - 1, 1)
theorem trip_rows : ∀ (A : PP) (b : Nat), (∀ p ∈ A, 0 < p.2) → (trip (b : Int) A).flatMap hookF = ((rowsP A).zipIdx b).map hookG
  | [], b, _ => rfl
  | p :: r, b, h => by
    have h1 := h p (List.mem_cons_self ..)
    have ih := trip_rows r (b + p.2.toNat) fun q hq => h q (List.mem_cons_of_mem _ hq)
    have e : rowsP (p :: r) = List.replicate p.2.toNat p.1 ++ rowsP r := by unfold rowsP; rw [List.flatMap_cons]
    rw [trip, List.flatMap_cons, e, List.zipIdx_append, List.map_append, List.length_replicate]
    rw [show ((b : Nat) : Int) + p.2 = ((b + p.2.toNat : Nat) : Int) by omega, ih]
    congr 1
    unfold hookF
    show (List.range (((b + p.2.toNat : Nat) : Int) - (b : Int)).toNat).map _ = _
    rw [show (((b + p.2.toNat : Nat) : Int) - (b : Int)).toNat = p.2.toNat by omega]
    apply List.ext_getElem?
    intro i
    rw [List.getElem?_map, List.getElem?_map, List.getElem?_zipIdx, List.getElem?_replicate]
    by_cases hi : i < p.2.toNat
    · rw [List.getElem?_range hi, if_pos hi]
      show some (2 * (p.1 - ((b : Int) + (i : Int))) - 1, (1 : Int)) = some (2 * (p.1 - ((b + i : Nat) : Int)) - 1, 1)
      rw [Int.natCast_add]
    · rw [if_neg hi, List.getElem?_eq_none (by rw [List.length_range]; omega)]; rfl
theorem hook_fold {rows : List Int} (h : RowsOk rows) : hookP (foldR rows) = rows.zipIdx.map hookG ∧ midF 0 (foldR rows) = trip 0 (RL rows) := by
  have m : midF 0 (foldR rows) = trip 0 (RL rows) := by
    unfold foldR
    rw [mid_app (RL rows) 0 _ fun p hp => ⟨RL_pos rows p hp, by
      have := h.long _ ((RL_keys rows p.1).mp (List.mem_map.mpr ⟨p, hp, rfl⟩))
      rw [RL_cnt]; omega⟩, mid_low _ _ fun q hq => by
      have := (h.low q hq).2.2.1
      rw [RL_cnt]; omega, List.append_nil]
  refine ⟨?_, m⟩
  unfold hookP
  rw [m]
  have := trip_rows (RL rows) 0 (RL_pos rows)
  rw [RL_rows] at this
  exact this
theorem trip_end : ∀ (A : PP) (b : Int), (∀ p ∈ A, 0 < p.2) → ∀ t ∈ trip b A, t.2.2 ≤ b + cntS A
  | [], b, _, t, h => by cases h
  | p :: r, b, hp, t, h => by
    have nn := cnt_nn (ps := r) fun q hq => hp q (List.mem_cons_of_mem _ hq)
    rw [cntS_cons]
    rcases List.mem_cons.mp h with rfl | h
    · show b + p.2 ≤ _; omega
    · have := trip_end r (b + p.2) (fun q hq => hp q (List.mem_cons_of_mem _ hq)) t h
      omega
def oddRows (ps : PP) : List Int := ps.zipIdx.map fun x => x.1.1 / 2 + 1 + ((x.2 : Nat) : Int)
structure OddOk (ps : PP) : Prop where
  fall : FallP ps
  one : ∀ p ∈ ps, 0 < p.1 ∧ p.2 = 1 ∧ p.1 % 2 = 1
theorem odd_get {ps : PP} {i : Nat} (h : i < ps.length) : (oddRows ps)[i]? = some (ps[i].1 / 2 + 1 + (i : Int)) := by
  unfold oddRows
  rw [List.getElem?_map, List.getElem?_zipIdx, List.getElem?_eq_getElem h]
  simp
theorem odd_len (ps : PP) : (oddRows ps).length = ps.length := by unfold oddRows; rw [List.length_map, List.length_zipIdx]
theorem odd_at {ps : PP} {i : Nat} (h : i < ps.length) : (oddRows ps)[i]'(by rw [odd_len]; exact h) = ps[i].1 / 2 + 1 + (i : Int) := by
  have := odd_get h
  obtain ⟨_, e⟩ := List.getElem?_eq_some_iff.mp this
  exact e
theorem odd_gap {ps : PP} (h : OddOk ps) : ∀ (k i : Nat) (hi : i + k < ps.length), ps[i + k].1 + 2 * (k : Int) ≤ ps[i].1
  | 0, i, hi => by show ps[i].1 + 2 * 0 ≤ _; omega
  | k + 1, i, hi => by
    have ih := odd_gap h k i (by omega)
    have f := h.fall
    unfold FallP keys at f
    have g := List.pairwise_iff_getElem.mp f (i + k) (i + (k + 1)) (by rw [List.length_map]; omega) (by rw [List.length_map]; omega) (by omega)
    rw [List.getElem_map, List.getElem_map] at g
    have o1 := (h.one _ (List.getElem_mem (show i + k < ps.length by omega))).2.2
    have o2 := (h.one _ (List.getElem_mem hi)).2.2
    rw [Int.natCast_add]
    omega
theorem odd_rows {ps : PP} (h : OddOk ps) : RowsOk (oddRows ps) := by
  refine ⟨List.pairwise_iff_getElem.mpr fun i j hi hj hij => ?_, fun x hx => ?_⟩
  · rw [odd_len] at hi hj
    rw [odd_at hi, odd_at hj]
    obtain ⟨k, rfl⟩ := Nat.exists_eq_add_of_lt hij
    have := odd_gap h (k + 1) i (by omega)
    have e : i + k + 1 = i + (k + 1) := by omega
    have : ps[i + k + 1].1 + 2 * ((k + 1 : Nat) : Int) ≤ ps[i].1 := by
      have := odd_gap h (k + 1) i (by omega)
      exact this
    show ps[i + k + 1].1 / 2 + 1 + ((i + k + 1 : Nat) : Int) ≤ ps[i].1 / 2 + 1 + (i : Int)
    omega
  · obtain ⟨i, hi, rfl⟩ := List.mem_iff_getElem.mp hx
    rw [odd_len] at hi
    rw [odd_at hi, odd_len]
    obtain ⟨k, hk⟩ := Nat.exists_eq_add_of_lt hi
    have g := odd_gap h k i (by omega)
    have p1 := (h.one _ (List.getElem_mem (show i + k < ps.length by omega))).1
    omega
theorem odd_back {ps : PP} (h : OddOk ps) : (oddRows ps).zipIdx.map hookG = ps := by
  apply List.ext_getElem?
  intro i
  rw [List.getElem?_map, List.getElem?_zipIdx]
  by_cases hi : i < ps.length
  · rw [odd_get hi, List.getElem?_eq_getElem hi]
    obtain ⟨p1, p2, p3⟩ := h.one _ (List.getElem_mem hi)
    have e : hookG (ps[i].1 / 2 + 1 + (i : Int), 0 + i) = ps[i] := by
      unfold hookG
      refine Prod.ext ?_ p2.symm
      show 2 * (ps[i].1 / 2 + 1 + (i : Int) - ((0 + i : Nat) : Int)) - 1 = ps[i].1
      omega
    show some (hookG _) = some _
    rw [e]
  · rw [List.getElem?_eq_none (by rw [odd_len]; omega), List.getElem?_eq_none (by omega)]; rfl
theorem odd_sum : ∀ (ps : PP) (k : Nat), (∀ p ∈ ps, p.2 = 1 ∧ p.1 % 2 = 1) → 2 * ((ps.zipIdx k).map fun x => x.1.1 / 2 + 1 + ((x.2 : Nat) : Int)).sum + (k : Int) * k = sumOf ps + ((k + ps.length : Nat) : Int) * ((k + ps.length : Nat) : Int)
  | [], k, _ => by
    show 2 * 0 + (k : Int) * k = 0 + (k : Int) * (k : Int)
    omega
  | p :: r, k, h => by
    obtain ⟨p1, p2⟩ := h p (List.mem_cons_self ..)
    have ih := odd_sum r (k + 1) fun q hq => h q (List.mem_cons_of_mem _ hq)
    rw [List.zipIdx_cons, List.map_cons, List.sum_cons, sum_cons, List.length_cons, p1, show k + (r.length + 1) = k + 1 + r.length by omega]
    have e : ((k + 1 : Nat) : Int) * ((k + 1 : Nat) : Int) = (k : Int) * k + 2 * k + 1 := by
      rw [Int.natCast_add, Int.add_mul, Int.mul_add, Int.mul_add]
      show (k : Int) * k + k * 1 + (1 * k + 1 * 1) = _
      omega
    rw [e] at ih
    show 2 * (p.1 / 2 + 1 + (k : Int) + _) + (k : Int) * k = p.1 * 1 + sumOf r + _
    generalize ((k + 1 + r.length : Nat) : Int) * ((k + 1 + r.length : Nat) : Int) = N at *
    generalize (k : Int) * k = K at *
    omega
theorem fold_odd_sum {ps : PP} (h : OddOk ps) : sumOf (foldR (oddRows ps)) = sumOf ps := by
  rw [fold_sum (odd_rows h), odd_len]
  have := odd_sum ps 0 fun p hp => (h.one p hp).2
  rw [Nat.zero_add] at this
  show 2 * (oddRows ps).sum - _ = _
  have e : ((0 : Nat) : Int) * ((0 : Nat) : Int) = 0 := rfl
  rw [e] at this
  unfold oddRows
  omega
end KX
set_option Elab.async false
set_option linter.all false
set_option maxRecDepth 100000
namespace KX
open PySem L2
def topS (i : Nat) : Stmt := PySem.Challenge.pw_partways_k05_refused.main.body.getD i (.Pass ⟨0, 0, 0, 0⟩)
abbrev s_is_number_from : Stmt := topS 8
abbrev s_is_pair : Stmt := topS 9
abbrev s_is_sum : Stmt := topS 10
abbrev s_is_unlike : Stmt := topS 11
abbrev s_checked_sum : Stmt := topS 12
abbrev s_checked_unlike : Stmt := topS 13
abbrev s_check_leader : Stmt := topS 14
abbrev s_whole : Stmt := topS 16
abbrev s_often : Stmt := topS 17
abbrev s_turned : Stmt := topS 18
abbrev s_is_own : Stmt := topS 19
abbrev s_columns : Stmt := topS 20
abbrev s_folded : Stmt := topS 23
abbrev s_hooks : Stmt := topS 24
abbrev s_told_by_runs : Stmt := topS 25
abbrev s_middle_rows : Stmt := topS 26
abbrev s_spread : Stmt := topS 28
abbrev s_gathered : Stmt := topS 29
abbrev s_squared_powers : Stmt := topS 30
abbrev s_split : Stmt := topS 31
abbrev s_taken_out : Stmt := topS 32
abbrev s_stairs : Stmt := topS 37
abbrev s_has_none : Stmt := topS 38
abbrev s_partner_of : Stmt := topS 39
abbrev s_partner : Stmt := topS 41
abbrev s_law_cell_at : Stmt := topS 43
abbrev s_law_draw : Stmt := topS 44
abbrev s_law_number : Stmt := topS 45
abbrev s_law_put : Stmt := topS 46
abbrev s_law_sum : Stmt := topS 47
abbrev s_law_kinds : Stmt := topS 48
abbrev s_law_with_sum : Stmt := topS 49
abbrev s_law_with_number : Stmt := topS 50
abbrev s_law_led : Stmt := topS 51
abbrev s_law_others : Stmt := topS 52
abbrev s_law_told : Stmt := topS 53
abbrev s_law_refused : Stmt := topS 54
abbrev s_law_many_right : Stmt := topS 55
abbrev s_law : Stmt := topS 56
end KX
set_option Elab.async false
set_option linter.all false
set_option maxRecDepth 100000
set_option maxHeartbeats 4000000
namespace KX
open PySem PySem.Spec L2 DW MP
def isPairB (p : Int × Int) : Bool := decide (1 ≤ p.1) && decide (1 ≤ p.2)
def gp (ps : PP) (i : Nat) : Int × Int := ps.getD i (0, 0)
def fallB (ps : PP) : Bool := ((List.range (ps.length - 1)).map fun i => decide ((gp ps (i + 1)).1 < (gp ps i).1)).all id
def isSumB (ps : PP) : Bool := (ps.map isPairB).all id && fallB ps
def isUnlikeB (ps : PP) : Bool := isSumB ps && (ps.map fun p => decide (p.2 = 1)).all id
def tame1 (d : D) : Bool := (tyN d).isSome
def numB (l : Int) : D → Bool
  | .int t => decide (l ≤ t)
  | _ => false
def pairB : D → Bool
  | .tup [x, y] => numB 1 x && numB 1 y
  | _ => false
def tame2 (d : D) : Bool := tame1 d && (match d with | .tup xs => xs.all tame1 && decide (xs.length ≤ 100) | _ => true)
def BadS (d : D) : Prop := (∃ ps : PP, ps.length ≤ 90000 ∧ d = pL ps ∧ isSumB ps = false) ∨ (tame1 d = true ∧ ∀ ds, d = .lst ds → (∀ x ∈ ds, tame2 x = true) ∧ ds.all pairB = false ∧ ds.length ≤ 90000)
structure ErrC (K : PySem.W.Frag) (mg : Str → Option Value) (cs : Nat → Addr) (x : Str) (i : Nat) : Prop where
  g : mg x = some (.ref (cs i))
  q : PySem.W.excIn K (cs i) [.type "ValueError", .type "Exception", .type "BaseException", .type "object"] "ValueError.__new__" = true
  kp : PySem.W.keepIn K (.ref (cs i)) = true
  b : PySem.W.subIn K (.ref (cs i)) (.type "BaseException") = some true
  t : PySem.W.typeIn K (.ref (cs i)) = some (.type "type")
section
variable {P : Program} {w : World} {K : PySem.W.Frag} {mg : Str → Option Value} {base : Heap} {cs : Nat → Addr}
def R_is_number_from : List D → D → Prop := fun ds d => ∃ (l : Int) (t : D), tame1 t = true ∧ ds = [.int l, t] ∧ d = .bl (numB l t)
theorem r_is_number_from {l : Int} {t : D} (h : tame1 t = true) : R_is_number_from [.int l, t] (.bl (numB l t)) := ⟨l, t, h, rfl, rfl⟩
def N_is_number_from : List Str := ["least", "thing"]
theorem sc_is_number_from : FnScope N_is_number_from ["least", "thing"] (defScope s_is_number_from) := ⟨rfl, rfl, rfl, by decide +kernel, rfl, by decide +kernel, by decide +kernel⟩
theorem ok_is_number_from {f : Addr} {fd : FuncData} (F : Fun K "is_number_from" "is_number_from" s_is_number_from f fd) (z_isinstance : mg "isinstance" = none) (z_int : mg "int" = none) (z_bool : mg "bool" = none) : FnOk P w K mg base CX0 1 f fd ["least", "thing"] (PSp K R_is_number_from) := by
  refine fn_ok F sc_is_number_from (by rintro ds d ⟨_, _, _, rfl, rfl⟩; rfl) ?_
  rintro ds d ⟨l, t, ht, rfl, rfl⟩ cdv A outer s H E hr
  cases t with
  | int t => exact dss_ret (.is (dm_and (dm_isi (n := "int") z_isinstance z_int (by decide +kernel) (dm_arg 1) rfl rfl) (fun _ => dm_and (dm_not (dm_isi (n := "bool") z_isinstance z_bool (by decide +kernel) (dm_arg 1) rfl rfl)) (fun _ => dm_one (dm_ge (dm_arg 1) (dm_arg 0))))) rfl) rfl
  | bl k => exact dss_ret (.is (dm_and (l := false) (dm_isi (n := "int") (k := true) z_isinstance z_int (by decide +kernel) (dm_arg 1) rfl (by decide +kernel)) (fun _ => dm_and (k := false) (l := false) (dm_not (dm_isi (n := "bool") (k := true) z_isinstance z_bool (by decide +kernel) (dm_arg 1) rfl (by decide +kernel))) (fun z => by cases z))) rfl) rfl
  | non => exact dss_ret (.is (dm_and (k := false) (l := false) (dm_isi (n := "int") z_isinstance z_int (by decide +kernel) (dm_arg 1) rfl (by decide +kernel)) (fun z => by cases z)) rfl) rfl
  | str x => exact dss_ret (.is (dm_and (k := false) (l := false) (dm_isi (n := "int") z_isinstance z_int (by decide +kernel) (dm_arg 1) rfl (by decide +kernel)) (fun z => by cases z)) rfl) rfl
  | lst x => exact dss_ret (.is (dm_and (k := false) (l := false) (dm_isi (n := "int") z_isinstance z_int (by decide +kernel) (dm_arg 1) rfl (by decide +kernel)) (fun z => by cases z)) rfl) rfl
  | tup x => exact dss_ret (.is (dm_and (k := false) (l := false) (dm_isi (n := "int") z_isinstance z_int (by decide +kernel) (dm_arg 1) rfl (by decide +kernel)) (fun z => by cases z)) rfl) rfl
  | dic x => exact dss_ret (.is (dm_and (k := false) (l := false) (dm_isi (n := "int") z_isinstance z_int (by decide +kernel) (dm_arg 1) rfl (by decide +kernel)) (fun z => by cases z)) rfl) rfl
  | obj _ _ _ => cases ht
  | opq _ => cases ht
def R_is_pair : List D → D → Prop := fun ds d => ∃ p : D, tame2 p = true ∧ ds = [p] ∧ d = .bl (pairB p)
theorem r_is_pair {p : D} (h : tame2 p = true) : R_is_pair [p] (.bl (pairB p)) := ⟨p, h, rfl, rfl⟩
def N_is_pair : List Str := ["thing"]
theorem sc_is_pair : FnScope N_is_pair ["thing"] (defScope s_is_pair) := ⟨rfl, rfl, rfl, by decide +kernel, rfl, by decide +kernel, by decide +kernel⟩
theorem ok_is_pair {f : Addr} {fd : FuncData} (F : Fun K "is_pair" "is_pair" s_is_pair f fd) (z_isinstance : mg "isinstance" = none) (z_tuple : mg "tuple" = none) (z_len : mg "len" = none) (c_is_number_from : CallOk P w K mg base "is_number_from" 1 R_is_number_from) : FnOk P w K mg base CX0 2 f fd ["thing"] (PSp K R_is_pair) := by
  refine fn_ok F sc_is_pair (by rintro ds d ⟨_, _, rfl, rfl⟩; rfl) ?_
  rintro ds d ⟨p, hp, rfl, rfl⟩ cdv A outer s H E hr
  have no : ∀ {t : String}, tyN p = some t → kitB t "tuple" = some false → DSs (cxOf CX0 P w K mg base N_is_pair "is_pair" (defScope s_is_pair) f cdv A outer s H E).nox (startE N_is_pair [p], []) (defBody s_is_pair) ⟨fun _ => D.bl (pairB p) = .non, fun d' => d' = .bl (pairB p), fun _ => False, fun _ => False⟩ := fun {t} h1 h2 => by
    refine dss_if1 (k := !false || false) (DW'.dt (dw_or (dt_not (dt_val (dm_isi (n := "tuple") z_isinstance z_tuple (by decide +kernel) (dm_arg 0) h1 h2))) (fun z => by cases z))) (fun _ => ?_) (fun z => by cases z)
    refine dss_ret (dm_bl) ?_
    have : pairB p = false := by
      cases p <;> first | rfl | (cases h1; exact absurd h2 (by decide +kernel))
    rw [this]
  cases p with
  | tup xs =>
    have hx : xs.all tame1 = true ∧ xs.length ≤ 100 := by
      unfold tame2 at hp
      rw [Bool.and_eq_true, Bool.and_eq_true, decide_eq_true_eq] at hp
      exact hp.2
    by_cases h2 : xs.length = 2
    · match xs, h2, hx with
      | [x, y], _, hx =>
        have hxy : tame1 x = true ∧ tame1 y = true := by simpa using hx.1
        refine dss_if1 (k := !true || !decide ((2 : Int) = 2)) (DW'.dt (dw_or (dt_not (dt_val (dm_isi (n := "tuple") (t := "tuple") z_isinstance z_tuple (by decide +kernel) (dm_arg 0) rfl rfl))) (fun _ => dw_or1 (dt_ne (dm_lenT (ds := [x, y]) z_len (dm_arg 0)) (dm_int))))) (fun hk => by cases hk) (fun _ => ?_)
        exact dss_ret (.is (dm_and (dm_call c_is_number_from hr (da_any (dm_int) (da_any (dm_ixT (ds := [x, y]) (dm_arg 0) (dm_int) rfl) (da_nil))) (r_is_number_from hxy.1)) (fun _ => dm_one (dm_call c_is_number_from hr (da_any (dm_int) (da_any (dm_ixT (ds := [x, y]) (dm_arg 0) (dm_int) rfl) (da_nil))) (r_is_number_from hxy.2)))) rfl) rfl
    · have e : pairB (.tup xs) = false := by
        match xs, h2 with
        | [], _ => rfl
        | [x], _ => rfl
        | x :: y :: z :: r, _ => rfl
      refine dss_if1 (k := !true || !decide ((xs.length : Int) = 2)) (DW'.dt (dw_or (dt_not (dt_val (dm_isi (n := "tuple") (t := "tuple") z_isinstance z_tuple (by decide +kernel) (dm_arg 0) rfl rfl))) (fun _ => dw_or1 (dt_ne (dm_lenT (ds := xs) z_len (dm_arg 0)) (dm_int))))) (fun _ => dss_ret (dm_bl) (by rw [e])) (fun hk => ?_)
      have : ((xs.length : Int) = 2) := by simpa using hk
      omega
  | non => exact no rfl (by decide +kernel)
  | bl k => exact no rfl (by decide +kernel)
  | int k => exact no rfl (by decide +kernel)
  | str k => exact no rfl (by decide +kernel)
  | lst k => exact no rfl (by decide +kernel)
  | dic k => exact no rfl (by decide +kernel)
  | obj _ _ _ => cases hp
  | opq _ => cases hp
theorem pair_pD (p : Int × Int) : tame2 (pD p) = true ∧ pairB (pD p) = isPairB p := ⟨rfl, rfl⟩
def R_is_sum : List D → D → Prop := fun ds d => ∃ (x : D) (k : Bool), ((∃ ps : PP, ps.length ≤ 90000 ∧ x = pL ps ∧ k = isSumB ps) ∨ (BadS x ∧ k = false)) ∧ ds = [x] ∧ d = .bl k
theorem r_is_sum {ps : PP} (h : ps.length ≤ 90000) : R_is_sum [pL ps] (.bl (isSumB ps)) := ⟨_, _, .inl ⟨ps, h, rfl, rfl⟩, rfl, rfl⟩
theorem r_is_sumB {x : D} (h : BadS x) : R_is_sum [x] (.bl false) := ⟨_, _, .inr ⟨h, rfl⟩, rfl, rfl⟩
def N_is_sum : List Str := ["thing", "at", "pair"]
theorem sc_is_sum : FnScope N_is_sum ["thing"] (defScope s_is_sum) := ⟨rfl, rfl, rfl, by decide +kernel, rfl, by decide +kernel, by decide +kernel⟩
theorem ok_is_sum {f : Addr} {fd : FuncData} (F : Fun K "is_sum" "is_sum" s_is_sum f fd) (z_isinstance : mg "isinstance" = none) (z_list : mg "list" = none) (z_all : mg "all" = none) (z_range : mg "range" = none) (z_len : mg "len" = none) (c_is_pair : CallOk P w K mg base "is_pair" 2 R_is_pair) : FnOk P w K mg base CX0 3 f fd ["thing"] (PSp K R_is_sum) := by
  refine fn_ok F sc_is_sum (by rintro ds d ⟨_, _, _, rfl, rfl⟩; rfl) ?_
  rintro ds d ⟨x, k, hx, rfl, rfl⟩ cdv A outer s H E hr
  have good : ∀ ps : PP, ps.length ≤ 90000 → DSs (cxOf CX0 P w K mg base N_is_sum "is_sum" (defScope s_is_sum) f cdv A outer s H E).nox (startE N_is_sum [pL ps], []) (defBody s_is_sum) ⟨fun _ => D.bl (isSumB ps) = .non, fun d' => d' = .bl (isSumB ps), fun _ => False, fun _ => False⟩ := fun ps hl => by
    refine dss_if1 (DW'.dt (dw_or (dt_not (dt_val (dm_isi (n := "list") z_isinstance z_list (by decide +kernel) (dm_arg 0) rfl rfl))) (fun _ => dw_or1 (dt_not (dt_val (dm_all rfl z_all (dm_lcMT D.bl (as := ps) (enc := pD) (g := isPairB) rfl sc_is_sum.nd (blk (N := N_is_sum) (sc := defScope s_is_sum) (own := [("pair", 2)]) (by decide +kernel)) (di_list (by decide) (dm_arg 0)) (fun a ha s H C c fp => dg_name 2 sc_is_sum.nd) (fun a ha s H C c fp => dm_call c_is_pair hr (da_any (dm_arg 2) (da_nil)) (r_is_pair (p := pD a) rfl)) hl))))))) (fun hk => ?_) (fun hk => ?_)
    · refine dss_ret (.is (dm_bl) (bl_eq ?_)) rfl
      have e : (ps.map isPairB).all id = false := by simpa using hk
      unfold isSumB
      rw [e]; rfl
    refine dss_ret (.is (dm_all rfl z_all (dm_lcMT D.bl rfl sc_is_sum.nd (blk (N := N_is_sum) (sc := defScope s_is_sum) (own := [("at", 1)]) (by decide +kernel)) (di_rng1 z_range (dm_sub (dm_lenT' (enc := pD) z_len (dm_arg 0)) (dm_int)) ?_ ?_) (fun a ha s H C c fp => dg_name 1 sc_is_sum.nd) (fun a ha s H C c fp => dm_gt (dm_p0 (dm_ixL (enc := pD) (x := gp ps a) (dm_arg 0) (dm_val 1) ?_)) (dm_p0 (dm_ixL (enc := pD) (x := gp ps (a + 1)) (dm_arg 0) (dm_add (dm_val 1) (dm_int)) ?_))) ?_)) (bl_eq ?_)) rfl
    · omega
    · omega
    · exact atI_nat' _ (by have := List.mem_range.mp ha; omega)
    · exact atI_nat' (j := a + 1) _ (by have := List.mem_range.mp ha; omega)
    · rw [List.length_range]; omega
    · have e : (ps.map isPairB).all id = true := by simpa using hk
      unfold isSumB fallB
      have e2 : ((ps.length : Int) - 1).toNat = ps.length - 1 := by omega
      rw [e, e2]; rfl
  have no : ∀ {t : String}, tyN x = some t → kitB t "list" = some false → DSs (cxOf CX0 P w K mg base N_is_sum "is_sum" (defScope s_is_sum) f cdv A outer s H E).nox (startE N_is_sum [x], []) (defBody s_is_sum) ⟨fun _ => D.bl false = .non, fun d' => d' = .bl false, fun _ => False, fun _ => False⟩ := fun {t} h1 h2 =>
    dss_if1 (k := !false || false) (DW'.dt (dw_or (dt_not (dt_val (dm_isi (n := "list") z_isinstance z_list (by decide +kernel) (dm_arg 0) h1 h2))) (fun z => by cases z))) (fun _ => dss_ret (dm_bl) rfl) (fun z => by cases z)
  rcases hx with ⟨ps, hl, rfl, rfl⟩ | ⟨hb, rfl⟩
  · exact good ps hl
  rcases hb with ⟨ps, hl, rfl, e⟩ | ⟨ht, hl⟩
  · rw [← e]; exact good ps hl
  cases x with
  | lst xs =>
    obtain ⟨h1, h2, h3⟩ := hl xs rfl
    refine dss_if1 (k := !true || !((xs.map pairB).all id)) (DW'.dt (dw_or (dt_not (dt_val (dm_isi (n := "list") (t := "list") z_isinstance z_list (by decide +kernel) (dm_arg 0) rfl rfl))) (fun _ => dw_or1 (dt_not (dt_val (dm_all rfl z_all (dm_lcMT D.bl (as := xs) (enc := fun d => d) (g := pairB) rfl sc_is_sum.nd (blk (N := N_is_sum) (sc := defScope s_is_sum) (own := [("pair", 2)]) (by decide +kernel)) (.is (di_list (by decide) (dm_arg 0)) (List.map_id' _).symm) (fun a ha s H C c fp => dg_name 2 sc_is_sum.nd) (fun a ha s H C c fp => dm_call c_is_pair hr (da_any (dm_arg 2) (da_nil)) (r_is_pair (h1 a ha))) h3))))))) (fun _ => dss_ret (dm_bl) rfl) (fun hk => ?_)
    have e : (xs.map pairB).all id = xs.all pairB := by rw [List.all_map]; rfl
    rw [e, h2] at hk
    cases hk
  | non => exact no rfl (by decide +kernel)
  | bl k => exact no rfl (by decide +kernel)
  | int k => exact no rfl (by decide +kernel)
  | str k => exact no rfl (by decide +kernel)
  | tup k => exact no rfl (by decide +kernel)
  | dic k => exact no rfl (by decide +kernel)
  | obj _ _ _ => cases ht
  | opq _ => cases ht
def R_is_unlike : List D → D → Prop := fun ds d => ∃ ps : PP, ps.length ≤ 90000 ∧ ds = [pL ps] ∧ d = .bl (isUnlikeB ps)
theorem r_is_unlike {ps : PP} (h : ps.length ≤ 90000) : R_is_unlike [pL ps] (.bl (isUnlikeB ps)) := ⟨ps, h, rfl, rfl⟩
def N_is_unlike : List Str := ["thing", "_", "count"]
theorem sc_is_unlike : FnScope N_is_unlike ["thing"] (defScope s_is_unlike) := ⟨rfl, rfl, rfl, by decide +kernel, rfl, by decide +kernel, by decide +kernel⟩
theorem ok_is_unlike {f : Addr} {fd : FuncData} (F : Fun K "is_unlike" "is_unlike" s_is_unlike f fd) (z_all : mg "all" = none) (c_is_sum : CallOk P w K mg base "is_sum" 3 R_is_sum) : FnOk P w K mg base CX0 4 f fd ["thing"] (PSp K R_is_unlike) := by
  refine fn_ok F sc_is_unlike (by rintro ds d ⟨_, _, rfl, rfl⟩; rfl) ?_
  rintro ds d ⟨ps, hl, rfl, rfl⟩ cdv A outer s H E hr
  refine dss_ret (.is (dm_and (dm_call c_is_sum hr (da_any (dm_arg 0) (da_nil)) (r_is_sum hl)) (fun _ => dm_one (dm_all rfl z_all (dm_lcMT D.bl rfl sc_is_unlike.nd (blk (N := N_is_unlike) (sc := defScope s_is_unlike) (own := [("_", 1), ("count", 2)]) (by decide +kernel)) (di_list (by decide) (dm_arg 0)) (fun a ha s H C c fp => dg_pair 1 2 rfl sc_is_unlike.nd) (fun a ha s H C c fp => dm_eq (dm_arg 2) (dm_int)) hl)))) ?_) rfl
  rfl
end
end KX
set_option Elab.async false
set_option linter.all false
set_option maxRecDepth 100000
set_option maxHeartbeats 4000000
namespace KX
open PySem PySem.Spec L2 DW MP
section
variable {P : Program} {w : World} {K : PySem.W.Frag} {mg : Str → Option Value} {base : Heap}
def cellAt (ns : List Int) (k : Int) : Int := ns.getD k.toNat 0
def R_law_cell_at : List D → D → Prop := fun ds d => ∃ (ns : List Int) (k : Int), 0 ≤ k ∧ ds = [iL ns, .int k] ∧ d = .int (cellAt ns k)
theorem r_law_cell_at {ns : List Int} {k : Int} (h : 0 ≤ k) : R_law_cell_at [iL ns, .int k] (.int (cellAt ns k)) := ⟨ns, k, h, rfl, rfl⟩
def N_law_cell_at : List Str := ["_law_script", "_law_k"]
theorem sc_law_cell_at : FnScope N_law_cell_at ["_law_script", "_law_k"] (defScope s_law_cell_at) := ⟨rfl, rfl, rfl, by decide +kernel, rfl, by decide +kernel, by decide +kernel⟩
theorem ok_law_cell_at {f : Addr} {fd : FuncData} (F : Fun K "_law_cell_at" "_law_cell_at" s_law_cell_at f fd) (z_len : mg "len" = none) : FnOk P w K mg base CX0 1 f fd ["_law_script", "_law_k"] (PSp K R_law_cell_at) := by
  refine fn_ok F sc_law_cell_at (by rintro ds d ⟨_, _, _, rfl, rfl⟩; rfl) ?_
  rintro ds d ⟨ns, k, h0, rfl, rfl⟩ cdv A outer s H E hr
  refine dss_if1 (dt_lt (dm_arg 1) (dm_lenT' (enc := D.int) z_len (dm_arg 0))) (fun hk => ?_) (fun hk => ?_)
  · -- return _law_script[_law_k]
    refine dss_ret (.is (dm_ixL (enc := D.int) (x := cellAt ns k) (dm_arg 0) (dm_arg 1) (atI_getD 0 h0 (of_decide_eq_true hk))).imm rfl) rfl
  refine dss_ret (.is (dm_int) (int_eq ?_)) rfl
  have := of_decide_eq_false hk
  unfold cellAt
  rw [List.getD_eq_getElem?_getD, List.getElem?_eq_none (by omega)]; rfl
def prs : List Int := [1000003, 1000033, 1000037, 1000039, 1000081, 1000099, 1000117, 1000121, 1000133, 1000151, 1000159, 1000171, 1000183, 1000187, 1000193, 1000199]
def primeAt (k : Int) : Int := prs.getD (k % 16).toNat 0
theorem primeAt_pos (k : Int) : 0 < primeAt k := by
  have h : ∀ x ∈ prs, (0 : Int) < x := by decide
  have h1 : (k % 16).toNat < prs.length := by show (k % 16).toNat < 16; omega
  unfold primeAt
  rw [List.getD_eq_getElem?_getD, List.getElem?_eq_getElem h1]
  exact h _ (List.getElem_mem h1)
def drawI (cell k many : Int) : Int := (cell * 48271 + k * 69621) % primeAt k % many
theorem drawI_nn {cell k many : Int} (h : 0 < many) : 0 ≤ drawI cell k many := Int.emod_nonneg _ (by omega)
theorem drawI_lt {cell k many : Int} (h : 0 < many) : drawI cell k many < many := Int.emod_lt_of_pos _ h
def R_law_draw : List D → D → Prop := fun ds d => ∃ cell k many : Int, 0 < many ∧ ds = [.int cell, .int k, .int many] ∧ d = .int (drawI cell k many)
theorem r_law_draw {cell k many : Int} (h : 0 < many) : R_law_draw [.int cell, .int k, .int many] (.int (drawI cell k many)) := ⟨cell, k, many, h, rfl, rfl⟩
def N_law_draw : List Str := ["_law_cell", "_law_k", "_law_many", "_law_primes"]
theorem sc_law_draw : FnScope N_law_draw ["_law_cell", "_law_k", "_law_many"] (defScope s_law_draw) := ⟨rfl, rfl, rfl, by decide +kernel, rfl, by decide +kernel, by decide +kernel⟩
theorem ok_law_draw {f : Addr} {fd : FuncData} (F : Fun K "_law_draw" "_law_draw" s_law_draw f fd) : FnOk P w K mg base CX0 1 f fd ["_law_cell", "_law_k", "_law_many"] (PSp K R_law_draw) := by
  refine fn_ok F sc_law_draw (by rintro ds d ⟨_, _, _, _, rfl, rfl⟩; rfl) ?_
  rintro ds d ⟨cell, k, many, hm, rfl, rfl⟩ cdv A outer s H E hr
  refine dss_set 3 sc_law_draw.nd (m := .cl) (d := .tup (prs.map D.int)) (dm_tup (da_ints (by rfl)) (by show 16 ≤ 100000; decide)) ?_
  refine dss_ret (.is (dm_mod (dm_mod (dm_add (dm_mulS (dm_arg 0) (dm_int) (cm_r (by decide))) (dm_mulS (dm_arg 1) (dm_int) (cm_r (by decide)))) (dm_ixT (d := .int (primeAt k)) (dm_val 3) (dm_mod (dm_arg 1) (dm_int) (by decide)) (atI_map (atI_getD 0 (by omega) (by show k % 16 < 16; omega)))) (primeAt_pos k)) (dm_arg 2) hm) rfl) rfl
abbrev p18 : Int := 10 ^ Int.toNat 18
abbrev p40 : Int := 10 ^ Int.toNat 40
def numberI (cell k limit : Int) : Int := if p18 ≤ cell then (cell - p18) % p40 else drawI ((cell + 977 * k) * (cell + 31 * k + 5)) (k % 9 + 1) limit
theorem numberI_nn {cell k limit : Int} (h : 0 < limit) : 0 ≤ numberI cell k limit := by
  unfold numberI
  split
  · exact Int.emod_nonneg _ (by decide)
  · exact drawI_nn h
def R_law_number : List D → D → Prop := fun ds d => ∃ cell k limit : Int, (0 < limit ∧ ib cell ≤ 1048576 ∧ 0 ≤ k ∧ k < 100000) ∧ ds = [.int cell, .int k, .int limit] ∧ d = .int (numberI cell k limit)
theorem r_law_number {cell k limit : Int} (h : 0 < limit) (h1 : ib cell ≤ 1048576) (h2 : 0 ≤ k) (h3 : k < 100000) : R_law_number [.int cell, .int k, .int limit] (.int (numberI cell k limit)) := ⟨cell, k, limit, ⟨h, h1, h2, h3⟩, rfl, rfl⟩
def N_law_number : List Str := ["_law_cell", "_law_k", "_law_limit"]
theorem sc_law_number : FnScope N_law_number ["_law_cell", "_law_k", "_law_limit"] (defScope s_law_number) := ⟨rfl, rfl, rfl, by decide +kernel, rfl, by decide +kernel, by decide +kernel⟩
theorem ok_law_number {f : Addr} {fd : FuncData} (F : Fun K "_law_number" "_law_number" s_law_number f fd) (c_law_draw : CallOk P w K mg base "_law_draw" 1 R_law_draw) : FnOk P w K mg base CX0 2 f fd ["_law_cell", "_law_k", "_law_limit"] (PSp K R_law_number) := by
  refine fn_ok F sc_law_number (by rintro ds d ⟨_, _, _, _, rfl, rfl⟩; rfl) ?_
  rintro ds d ⟨cell, k, limit, ⟨h0, h1, h2, h3⟩, rfl, rfl⟩ cdv A outer s H E hr
  refine dss_if1 (dt_ge (dm_arg 0) (dm_pow (dm_int) (dm_int) ⟨by decide, by decide, by decide⟩)) (fun hk => ?_) (fun hk => ?_)
  · -- return (_law_cell - 10 ** 18) % 10 ** 40
    refine dss_ret (.is (dm_mod (dm_sub (dm_arg 0) (dm_pow (dm_int) (dm_int) ⟨by decide, by decide, by decide⟩)) (dm_pow (dm_int) (dm_int) ⟨by decide, by decide, by decide⟩) (by decide)) (int_eq ?_)) rfl
    unfold numberI
    exact (if_pos (of_decide_eq_true hk)).symm
  refine dss_ret (.is (dm_call c_law_draw hr (da_any (dm_mul (dm_add (dm_arg 0) (dm_mulS (dm_int) (dm_arg 1) (cm_l (by decide)))) (dm_add (dm_add (dm_arg 0) (dm_mulS (dm_int) (dm_arg 1) (cm_l (by decide)))) (dm_int)) ?_) (da_any (dm_add (dm_mod (dm_arg 1) (dm_int) (by decide)) (dm_int)) (da_any (dm_arg 2) (da_nil)))) (r_law_draw h0)) (int_eq ?_)) rfl
  · have a := ib_add h1 (ib_small (i := 977 * k) (n := 1048576) (by omega) (by decide))
    have b := ib_add h1 (ib_small (i := 31 * k) (n := 1048576) (by omega) (by decide))
    have b2 := ib_add b (ib_small (i := 5) (n := 1048577) (by decide) (by decide))
    exact cmx a b2 (by decide)
  · unfold numberI
    exact (if_neg (of_decide_eq_false hk)).symm
end
end KX
set_option Elab.async false
set_option linter.all false
set_option maxRecDepth 100000
set_option maxHeartbeats 4000000
namespace KX
open PySem PySem.Spec L2 DW MP
theorem mem_cutL {α : Type} {xs : List α} {lo hi : Option Int} {x : α} (h : x ∈ cutL xs lo hi) : x ∈ xs := List.mem_of_mem_drop (List.mem_of_mem_take h)
theorem cutL_len {α : Type} (xs : List α) (lo hi : Option Int) : (cutL xs lo hi).length ≤ xs.length := by
  unfold cutL
  rw [List.length_take, List.length_drop]
  omega
section
variable {P : Program} {w : World} {K : PySem.W.Frag} {mg : Str → Option Value} {base : Heap}
def R_law_put : List D → D → Prop := fun ds d => ∃ ps : PP, ps.length ≤ 45000 ∧ ds = [pL ps] ∧ d = pL (putP ps)
theorem r_law_put {ps : PP} (h2 : ps.length ≤ 45000) : R_law_put [pL ps] (pL (putP ps)) := ⟨ps, h2, rfl, rfl⟩
def N_law_put : List Str := ["_law_pairs", "_law_counts", "_law_part", "_law_many"]
theorem sc_law_put : FnScope N_law_put ["_law_pairs"] (defScope s_law_put) := ⟨rfl, rfl, rfl, by decide +kernel, rfl, by decide +kernel, by decide +kernel⟩
theorem ok_law_put {f : Addr} {fd : FuncData} (F : Fun K "_law_put" "_law_put" s_law_put f fd) (z_sorted : mg "sorted" = none) : FnOk P w K mg base CX0 1 f fd ["_law_pairs"] (PSp K R_law_put) := by
  refine fn_ok F sc_law_put (by rintro ds d ⟨_, _, rfl, rfl⟩; rfl) ?_
  rintro ds d ⟨ps, hl, rfl, rfl⟩ cdv A outer s H E hr
  have hu := hu_of hr
  refine dss_setD 1 sc_law_put.nd ?_
  refine dss_for (m := .ar) (ds := ps.map pD) (fun i env => ∃ a b, env = ([.arg (pL ps), .own 0, a, b], [.dic (kvI (accP (ps.take i)))])) PassesOwn.never rfl (di_list (by decide) (dm_arg 0)) ⟨_, _, rfl⟩ ?_ ?_
  · rintro i d env hd ⟨a, b, rfl⟩
    rw [List.getElem?_map] at hd
    obtain ⟨p, hp, rfl⟩ := Option.map_eq_some_iff.mp hd
    have len : (kvI (accP (ps.take i))).length ≤ 45000 := by
      have := acc_len (ps.take i)
      unfold kvI
      rw [List.length_map]
      rw [List.length_take] at this
      omega
    refine ⟨_, _, dg_pair 2 3 rfl sc_law_put.nd, rfl, ?_⟩
    refine dss_dput 1 (kvs := kvI (accP (ps.take i))) (d := .int (cnt (accP (ps.take i)) p.1 + p.2)) hu (dm_add (.is (dm_get (x1 := ⟨0, 0, 0, 0⟩) (da := .int 0) hu (dm_own 1) (dm_arg 2) (dm_int) (by rw [get0]; rfl)) (get0 _ _)) (dm_arg 3)) rfl (dm_arg 2) (dss_nil ?_) (by omega)
    rw [put_kvI (acc_nodup _) p, ← accP_snoc hp]
    exact ⟨_, _, rfl⟩
  rintro env ⟨a, b, rfl⟩
  rw [List.length_map, List.take_length]
  have sl := sortD_len (keys ps)
  have kl : (keys ps).length = ps.length := List.length_map ..
  have km : ∀ k, k ∈ (sortD (keys ps)).reverse → k ∈ keys (accP ps) := fun k hk => by
    rw [acc_mem]
    rwa [List.mem_reverse, mem_sortD] at hk
  refine dss_ret (dm_lcMT pD (enc := D.int) (as := (sortD (keys ps)).reverse) (g := fun k => (k, tot ps k)) rfl sc_law_put.nd (blk (N := N_law_put) (sc := defScope s_law_put) (own := [("_law_part", 2)]) (by decide +kernel)) (di_list (by decide) (dm_revT (enc := D.int) (as := sortD (keys ps)) (dm_sortKeys rfl z_sorted (dm_own 1) ?_ ?_) (imL fun _ => rfl))) (fun a ha s H C c fp => dg_name 2 sc_law_put.nd) (fun a ha s H C c fp => dm_pair (dm_val 2) (.is (dm_dix hu (dm_own 1) (dm_val 2) ((look_kvI _ a).1 (km a ha)) rfl) (int_eq (acc_cnt ps a)))) ?_) rfl
  · rw [kvI_keys]
    refine (List.perm_ext_iff_of_nodup (List.Pairwise.imp (fun h => Int.ne_of_lt h) (sortD_pw _)) (acc_nodup ps)).mpr fun k => ?_
    rw [mem_sortD, acc_mem]
  · exact List.Pairwise.imp (fun h => Int.le_of_lt h) (sortD_pw _)
  · rw [List.length_reverse]; omega
end
end KX
set_option Elab.async false
set_option linter.all false
set_option maxRecDepth 100000
set_option maxHeartbeats 4000000
namespace KX
open PySem PySem.Spec L2 DW MP
def OkNs (ns : List Int) : Prop := ns.length ≤ 63 ∧ ∀ z ∈ ns, ib z ≤ 1048576
structure SumB (ps : PP) : Prop where
  fall : FallP ps
  pos : ∀ p ∈ ps, 0 < p.1 ∧ 0 < p.2
  top : ∀ p ∈ ps, p.1 < 2 ^ 200 ∧ p.2 < 2 ^ 200
  len : ps.length ≤ 64
theorem numberI_lt {cell k limit : Int} (h : 0 < limit) (h2 : limit ≤ 900000) : numberI cell k limit < p40 := by
  unfold numberI
  split
  · exact Int.emod_lt_of_pos _ (by decide)
  · have := drawI_lt (cell := (cell + 977 * k) * (cell + 31 * k + 5)) (k := k % 9 + 1) h
    exact Int.lt_trans this (Int.lt_of_le_of_lt h2 (by decide))
def limS (ns : List Int) : Int := ([9, 60, 900000] : List Int).getD (drawI (cellAt ns 0) 7 3).toNat 0
def timS (ns : List Int) : Int := ([1, 4, 900000] : List Int).getD (drawI (cellAt ns 1) 6 3).toNat 0
theorem three_pos {l : List Int} {i : Int} (hl : l.length = 3) (h : ∀ x ∈ l, 0 < x ∧ x ≤ 900000) (h0 : 0 ≤ i) (h1 : i < 3) : 0 < l.getD i.toNat 0 ∧ l.getD i.toNat 0 ≤ 900000 := by
  have hi : i.toNat < l.length := by omega
  rw [List.getD_eq_getElem?_getD, List.getElem?_eq_getElem hi]
  exact h _ (List.getElem_mem hi)
theorem limS_pos (ns : List Int) : 0 < limS ns ∧ limS ns ≤ 900000 := three_pos rfl (by decide) (drawI_nn (by decide)) (drawI_lt (by decide))
theorem timS_pos (ns : List Int) : 0 < timS ns ∧ timS ns ≤ 900000 := three_pos rfl (by decide) (drawI_nn (by decide)) (drawI_lt (by decide))
abbrev p20 : Int := 10 ^ Int.toNat 20
def rawF (ns : List Int) (q : Int × Nat) : Int × Int :=
  (1 + numberI q.1 (q.2 : Nat) (limS ns), 1 + ((numberI q.1 (q.2 : Nat) (limS ns) * 48271 + 7 * ((q.2 : Nat) : Int)) % 1000003 % timS ns + if decide (((q.2 : Nat) : Int) < 6) = true then numberI q.1 (q.2 : Nat) (limS ns) / p20 else 0))
def rawS (ns : List Int) : PP := (cutL ns none (some 63)).zipIdx.map (rawF ns)
def sumP (ns : List Int) : PP := putP (rawS ns)
theorem rawS_len (ns : List Int) (h : ns.length ≤ 63) : (rawS ns).length ≤ 63 := by
  unfold rawS
  rw [List.length_map, List.length_zipIdx]
  exact Nat.le_trans (cutL_len _ _ _) h
theorem rawF_ok (ns : List Int) (q : Int × Nat) : (0 < (rawF ns q).1 ∧ (rawF ns q).1 ≤ p40) ∧ (0 < (rawF ns q).2 ∧ (rawF ns q).2 ≤ 2 ^ 150) := by
  have n0 := numberI_nn (cell := q.1) (k := (q.2 : Nat)) (limS_pos ns).1
  have n1 := numberI_lt (cell := q.1) (k := (q.2 : Nat)) (limS_pos ns).1 (limS_pos ns).2
  have t := timS_pos ns
  have m0 := Int.emod_nonneg ((numberI q.1 (q.2 : Nat) (limS ns) * 48271 + 7 * ((q.2 : Nat) : Int)) % 1000003) (Int.ne_of_gt t.1)
  have m1 := Int.emod_lt_of_pos ((numberI q.1 (q.2 : Nat) (limS ns) * 48271 + 7 * ((q.2 : Nat) : Int)) % 1000003) t.1
  have d0 : 0 ≤ numberI q.1 (q.2 : Nat) (limS ns) / p20 := Int.ediv_nonneg n0 (by decide)
  have d1 : numberI q.1 (q.2 : Nat) (limS ns) / p20 ≤ numberI q.1 (q.2 : Nat) (limS ns) := Int.ediv_le_self _ n0
  have e40 : p40 + 900000 + 1 ≤ 2 ^ 150 := by decide
  unfold rawF
  generalize numberI q.1 (q.2 : Nat) (limS ns) = n at *
  generalize n / p20 = d at *
  generalize (n * 48271 + 7 * ((q.2 : Nat) : Int)) % 1000003 % timS ns = m at *
  refine ⟨⟨by show 0 < 1 + n; omega, by show 1 + n ≤ p40; omega⟩, ?_⟩
  show 0 < 1 + (m + if _ then d else 0) ∧ 1 + (m + if _ then d else 0) ≤ 2 ^ 150
  generalize hp : p40 = c at *
  generalize hq : (2 : Int) ^ 150 = e at *
  split <;> omega
theorem ite_int {k : Bool} {a b : Int} : (if k = true then D.int a else D.int b) = D.int (if k = true then a else b) := by cases k <;> rfl
section
variable {P : Program} {w : World} {K : PySem.W.Frag} {mg : Str → Option Value} {base : Heap}
def R_law_sum : List D → D → Prop := fun ds d => ∃ ns : List Int, OkNs ns ∧ ds = [iL ns] ∧ d = pL (sumP ns)
theorem r_law_sum {ns : List Int} (h : OkNs ns) : R_law_sum [iL ns] (pL (sumP ns)) := ⟨ns, h, rfl, rfl⟩
def N_law_sum : List Str := ["_law_script", "_law_limit", "_law_times", "_law_found", "_law_k", "_law_cell", "_law_number_here", "_law_more"]
theorem sc_law_sum : FnScope N_law_sum ["_law_script"] (defScope s_law_sum) := ⟨rfl, rfl, rfl, by decide +kernel, rfl, by decide +kernel, by decide +kernel⟩
theorem zip_mem {α : Type} {xs : List α} {q : α × Nat} (h : q ∈ xs.zipIdx) : q.2 < xs.length ∧ q.1 ∈ xs := by
  obtain ⟨x, i⟩ := q
  have := List.mem_zipIdx h
  simp at this
  exact ⟨this.1, by rw [this.2]; exact List.getElem_mem _⟩
theorem ok_law_sum {f : Addr} {fd : FuncData} (F : Fun K "_law_sum" "_law_sum" s_law_sum f fd) (z_enumerate : mg "enumerate" = none) (c_law_draw : CallOk P w K mg base "_law_draw" 1 R_law_draw) (c_law_cell_at : CallOk P w K mg base "_law_cell_at" 1 R_law_cell_at) (c_law_number : CallOk P w K mg base "_law_number" 2 R_law_number) (c_law_put : CallOk P w K mg base "_law_put" 1 R_law_put) : FnOk P w K mg base CX0 3 f fd ["_law_script"] (PSp K R_law_sum) := by
  refine fn_ok F sc_law_sum (by rintro ds d ⟨_, _, rfl, rfl⟩; rfl) ?_
  rintro ds d ⟨ns, hns, rfl, rfl⟩ cdv A outer s H E hr
  have cl := cutL_len ns none (some 63)
  refine dss_set 1 sc_law_sum.nd (m := .cl) (d := .int (limS ns)) (dm_ixT (ds := ([9, 60, 900000] : List Int).map D.int) (dm_tup (da_ints (by decide +kernel)) (by show 3 ≤ 100000; decide)) (dm_call c_law_draw hr (da_any (dm_call c_law_cell_at hr (da_any (dm_arg 0) (da_any (dm_int) (da_nil))) (r_law_cell_at (by decide))) (da_any (dm_int) (da_any (dm_int) (da_nil)))) (r_law_draw (by decide))) (atI_map (atI_getD 0 (drawI_nn (by decide)) (drawI_lt (by decide))))) ?_
  refine dss_set 2 sc_law_sum.nd (m := .cl) (d := .int (timS ns)) (dm_ixT (ds := ([1, 4, 900000] : List Int).map D.int) (dm_tup (da_ints (by decide +kernel)) (by show 3 ≤ 100000; decide)) (dm_call c_law_draw hr (da_any (dm_call c_law_cell_at hr (da_any (dm_arg 0) (da_any (dm_int) (da_nil))) (r_law_cell_at (by decide))) (da_any (dm_int) (da_any (dm_int) (da_nil)))) (r_law_draw (by decide))) (atI_map (atI_getD 0 (drawI_nn (by decide)) (drawI_lt (by decide))))) ?_
  refine dss_setN 3 (ds := []) sc_law_sum.nd dn_nil rfl ?_
  refine dss_for (m := .cl) (ds := (cutL ns none (some 63)).zipIdx.map fun q => pD ((q.2 : Nat), q.1)) (fun i env => ∃ a b c d, env = ([.arg (iL ns), .val (.int (limS ns)), .val (.int (timS ns)), .own 0, a, b, c, d], [pL ((rawS ns).take i)])) PassesOwn.never rfl (di_enI (imL fun _ => rfl) (by decide) z_enumerate (dm_sliceT (enc := D.int) (dm_arg 0) (imL fun _ => rfl) do_none (do_some (dm_int)))) ⟨_, _, _, _, rfl⟩ ?_ ?_
  · rintro i d env hd ⟨s4, s5, s6, s7, rfl⟩
    rw [List.getElem?_map] at hd
    obtain ⟨q, hq, rfl⟩ := Option.map_eq_some_iff.mp hd
    have zm := zip_mem (List.mem_of_getElem? hq)
    have q2 : q.2 < 63 := Nat.lt_of_lt_of_le zm.1 (Nat.le_trans cl hns.1)
    have rq : (rawS ns)[i]? = some (rawF ns q) := by
      unfold rawS
      rw [List.getElem?_map, hq]; rfl
    have rl := rawS_len ns hns.1
    refine ⟨_, _, dg_pair 4 5 rfl sc_law_sum.nd, rfl, ?_⟩
    refine dss_set 6 sc_law_sum.nd (m := .cl) (dm_call c_law_number hr (da_any (dm_val 5) (da_any (dm_val 4) (da_any (dm_val 1) (da_nil)))) (r_law_number (limS_pos ns).1 (hns.2 _ (mem_cutL zm.2)) (by show (0 : Int) ≤ (q.2 : Nat); omega) (by show ((q.2 : Nat) : Int) < 100000; omega))) ?_
    refine dss_set 7 sc_law_sum.nd (m := .cl) (dm_mod (dm_mod (dm_add (dm_mulS (dm_val 6) (dm_int) (cm_r (by decide))) (dm_mulS (dm_int) (dm_val 4) (cm_l (by decide)))) (dm_int) (by decide)) (dm_val 2) (timS_pos ns).1) ?_
    refine dss_set 7 sc_law_sum.nd (m := .cl) (dm_add (dm_val 7) (.is (dm_ite (m := .cl) (dt_lt (dm_val 4) (dm_int)) (fun _ => dm_div (dm_val 6) (dm_pow (dm_int) (dm_int) ⟨by decide, by decide, by decide⟩) ⟨by decide, by decide +kernel⟩) (fun _ => dm_int)) (ite_int))) ?_
    refine dss_app 3 (ds := ((rawS ns).take i).map pD) (d := pD (rawF ns q)) (dm_pair (dm_add (dm_int) (dm_val 6)) (dm_add (dm_int) (dm_val 7))) imm_pD (dss_nil ?_) (by rw [List.length_map, List.length_take]; omega)
    have e : pL ((rawS ns).take (i + 1)) = D.lst (((rawS ns).take i).map pD ++ [pD (rawF ns q)]) := by
      obtain ⟨hi, e⟩ := List.getElem?_eq_some_iff.mp rq
      rw [List.take_succ_eq_append_getElem hi, e]
      exact congrArg D.lst List.map_append
    rw [e]
    exact ⟨_, _, _, _, rfl⟩
  · rintro env ⟨s4, s5, s6, s7, rfl⟩
    have el : ((cutL ns none (some 63)).zipIdx.map fun q => pD ((q.2 : Nat), q.1)).length = (rawS ns).length := by
      unfold rawS
      rw [List.length_map, List.length_map]
    rw [el, List.take_length]
    exact dss_ret (dm_call c_law_put hr (da_any (dm_own 3) (da_nil)) (r_law_put (by have := rawS_len ns hns.1; omega))) rfl
end
end KX
set_option Elab.async false
set_option linter.all false
set_option maxRecDepth 100000
set_option maxHeartbeats 4000000
namespace KX
open PySem PySem.Spec L2 DW MP
structure SumOk (ps : PP) : Prop where
  fall : FallP ps
  pos : ∀ p ∈ ps, 0 < p.1 ∧ 0 < p.2
  top : ∀ p ∈ ps, ib p.1 ≤ 1000 ∧ ib p.2 ≤ 1000
  len : ps.length ≤ 40000
theorem gp_fall {ps : PP} (h : FallP ps) : fallB ps = true := by
  unfold fallB
  rw [List.all_eq_true]
  intro b hb
  obtain ⟨i, hi, rfl⟩ := List.mem_map.mp hb
  have hi' := List.mem_range.mp hi
  have g : ∀ j (hj : j < ps.length), gp ps j = ps[j] := fun j hj => by
    unfold gp
    rw [List.getD_eq_getElem?_getD, List.getElem?_eq_getElem hj]; rfl
  rw [g i (by omega), g (i + 1) (by omega)]
  have := List.pairwise_iff_getElem.mp h i (i + 1) (by unfold keys; rw [List.length_map]; omega) (by unfold keys; rw [List.length_map]; omega) (by omega)
  unfold keys at this
  rw [List.getElem_map, List.getElem_map] at this
  exact decide_eq_true this
theorem SumOk.is {ps : PP} (h : SumOk ps) : isSumB ps = true := by
  unfold isSumB
  rw [gp_fall h.fall, Bool.and_true, List.all_eq_true]
  intro b hb
  obtain ⟨p, hp, rfl⟩ := List.mem_map.mp hb
  obtain ⟨a, c⟩ := h.pos p hp
  unfold isPairB
  rw [decide_eq_true (show 1 ≤ p.1 by omega), decide_eq_true (show 1 ≤ p.2 by omega)]; rfl
theorem all_true {α : Type} {g : α → Bool} {l : List α} (h : ∀ a ∈ l, g a = true) : (l.map g).all id = true := by
  rw [List.all_eq_true]
  intro b hb
  obtain ⟨a, ha, rfl⟩ := List.mem_map.mp hb
  exact h a ha
section
variable {P : Program} {w : World} {K : PySem.W.Frag} {mg : Str → Option Value} {base : Heap}
def R_checked_sum : List D → D → Prop := fun ds d => ∃ ps : PP, SumOk ps ∧ ds = [pL ps] ∧ d = pL ps
theorem r_checked_sum {ps : PP} (h : SumOk ps) : R_checked_sum [pL ps] (pL ps) := ⟨ps, h, rfl, rfl⟩
def N_checked_sum : List Str := ["parts", "part", "count"]
theorem sc_checked_sum : FnScope N_checked_sum ["parts"] (defScope s_checked_sum) := ⟨rfl, rfl, rfl, by decide +kernel, rfl, by decide +kernel, by decide +kernel⟩
theorem ok_checked_sum {f : Addr} {fd : FuncData} (F : Fun K "checked_sum" "checked_sum" s_checked_sum f fd) (c_is_sum : CallOk P w K mg base "is_sum" 3 R_is_sum) : FnOk P w K mg base CX0 4 f fd ["parts"] (PSp K R_checked_sum) := by
  refine fn_ok F sc_checked_sum (by rintro ds d ⟨_, _, rfl, rfl⟩; rfl) ?_
  rintro ds d ⟨ps, h, rfl, rfl⟩ cdv A outer s H E hr
  have hl := h.len
  refine dss_if1 (dt_not (dt_val (dm_call c_is_sum hr (da_any (dm_arg 0) (da_nil)) (r_is_sum (by omega))))) (fun hk => by rw [h.is] at hk; cases hk) (fun _ => ?_)
  refine dss_ret (.is (dm_lcMT pD (as := ps) (enc := pD) (g := fun p => (p.1, p.2)) rfl sc_checked_sum.nd (blk (N := N_checked_sum) (sc := defScope s_checked_sum) (own := [("part", 1), ("count", 2)]) (by decide +kernel)) (di_list (by decide) (dm_arg 0)) (fun a ha s H C c fp => dg_pair 1 2 rfl sc_checked_sum.nd) (fun a ha s H C c fp => dm_pair (dm_arg 1) (dm_arg 2)) (by omega)) ?_) rfl
  rw [List.map_id']
theorem un_of {ps : PP} (h : SumOk ps) (h1 : ∀ p ∈ ps, p.2 = 1) : isUnlikeB ps = true := by
  unfold isUnlikeB
  rw [h.is, Bool.true_and]
  exact all_true fun p hp => decide_eq_true (h1 p hp)
def R_checked_unlike : List D → D → Prop := fun ds d => ∃ ps : PP, (SumOk ps ∧ ∀ p ∈ ps, p.2 = 1) ∧ ds = [pL ps] ∧ d = pL ps
theorem r_checked_unlike {ps : PP} (h : SumOk ps) (h2 : ∀ p ∈ ps, p.2 = 1) : R_checked_unlike [pL ps] (pL ps) := ⟨ps, ⟨h, h2⟩, rfl, rfl⟩
def N_checked_unlike : List Str := ["parts", "pairs"]
theorem sc_checked_unlike : FnScope N_checked_unlike ["parts"] (defScope s_checked_unlike) := ⟨rfl, rfl, rfl, by decide +kernel, rfl, by decide +kernel, by decide +kernel⟩
theorem ok_checked_unlike {f : Addr} {fd : FuncData} (F : Fun K "checked_unlike" "checked_unlike" s_checked_unlike f fd) (c_checked_sum : CallOk P w K mg base "checked_sum" 4 R_checked_sum) (c_is_unlike : CallOk P w K mg base "is_unlike" 4 R_is_unlike) : FnOk P w K mg base CX0 5 f fd ["parts"] (PSp K R_checked_unlike) := by
  refine fn_ok F sc_checked_unlike (by rintro ds d ⟨_, _, rfl, rfl⟩; rfl) ?_
  rintro ds d ⟨ps, ⟨hs, h1⟩, rfl, rfl⟩ cdv A outer s H E hr
  have hl := hs.len
  refine dss_set 1 sc_checked_unlike.nd (m := .cl) (d := pL ps) (dm_call c_checked_sum hr (da_any (dm_arg 0) (da_nil)) (r_checked_sum hs)) ?_
  refine dss_if1 (dt_not (dt_val (dm_call c_is_unlike hr (da_any (dm_val 1) (da_nil)) (r_is_unlike (by omega))))) (fun hk => by rw [un_of hs h1] at hk; cases hk) (fun _ => ?_)
  refine dss_ret (dm_val 1) rfl
def R_check_leader : List D → D → Prop := fun ds d => ∃ by_ : Int, 2 ≤ by_ ∧ ds = [.int by_] ∧ d = .non
theorem r_check_leader {by_ : Int} (h : 2 ≤ by_) : R_check_leader [.int by_] .non := ⟨by_, h, rfl, rfl⟩
def N_check_leader : List Str := ["by"]
theorem sc_check_leader : FnScope N_check_leader ["by"] (defScope s_check_leader) := ⟨rfl, rfl, rfl, by decide +kernel, rfl, by decide +kernel, by decide +kernel⟩
theorem ok_check_leader {f : Addr} {fd : FuncData} (F : Fun K "check_leader" "check_leader" s_check_leader f fd) (c_is_number_from : CallOk P w K mg base "is_number_from" 1 R_is_number_from) : FnOk P w K mg base CX0 2 f fd ["by"] (PSp K R_check_leader) := by
  refine fn_ok F sc_check_leader (by rintro ds d ⟨_, _, rfl, rfl⟩; rfl) ?_
  rintro ds d ⟨by_, h, rfl, rfl⟩ cdv A outer s H E hr
  exact dss_if1 (dt_not (dt_val (dm_call c_is_number_from hr (da_any (dm_int) (da_any (dm_arg 0) (da_nil))) (r_is_number_from rfl)))) (fun hk => by rw [show numB 2 (.int by_) = true from decide_eq_true h] at hk; cases hk) (fun _ => dss_nil rfl)
variable {cs : Nat → Addr}
theorem drs_err {X : Cx} {env : DW.Env} {rest : List Stmt} {x msg : Str} {i j : Nat} {p p2 pos pos2 : Pos} (hc : X.calm = true) (E : ErrC X.K X.mg cs x i) (hg : Gl X x := by rfl) (hdb : (x == ("__debug__" : Str)) = false := by decide) : DRs X (cs i) env (.Raise (some (.Call (.Name x p) [.Constant (.str msg) j p2] [] pos)) none pos2 :: rest) :=
  drs_raise hc PySem.F.excBase_ValueError E.q E.g E.kp (raises_own E.b E.t) hg hdb
def X_checked_sum : List D → Nat → Prop := fun ds i => ∃ x, BadS x ∧ ds = [x] ∧ i = 0
theorem x_checked_sum {x : D} (h : BadS x) : X_checked_sum [x] 0 := ⟨x, h, rfl, rfl⟩
theorem okx_checked_sum {f : Addr} {fd : FuncData} (F : Fun K "checked_sum" "checked_sum" s_checked_sum f fd) (e_BadSum : ErrC K mg cs "BadSum" 0) (c_is_sum : CallOk P w K mg base "is_sum" 3 R_is_sum) : FnOk P w K mg base (L2N.CX P w) 4 f fd ["parts"] (PSpR K cs X_checked_sum) := by
  refine fn_okR F sc_checked_sum (by rintro ds d ⟨_, _, rfl, rfl⟩; rfl) ?_
  rintro ds d ⟨x, h, rfl, rfl⟩ cdv A outer s H E hr
  exact drs_if1 (k := !false) (dt_not (dt_val (dm_call c_is_sum hr (da_any (dm_arg 0) (da_nil)) (r_is_sumB h)))) (fun _ => drs_err rfl e_BadSum) (fun hk => by cases hk)
def X_checked_unlike : List D → Nat → Prop := fun ds i => ∃ x, ((BadS x ∧ i = 0) ∨ (∃ ps : PP, SumOk ps ∧ (∃ p ∈ ps, p.2 ≠ 1) ∧ x = pL ps ∧ i = 2)) ∧ ds = [x]
theorem x_checked_unlike0 {x : D} (h : BadS x) : X_checked_unlike [x] 0 := ⟨x, .inl ⟨h, rfl⟩, rfl⟩
theorem x_checked_unlike2 {ps : PP} (h : SumOk ps) (h2 : ∃ p ∈ ps, p.2 ≠ 1) : X_checked_unlike [pL ps] 2 := ⟨_, .inr ⟨ps, h, h2, rfl, rfl⟩, rfl⟩
theorem un_not {ps : PP} (h2 : ∃ p ∈ ps, p.2 ≠ 1) : isUnlikeB ps = false := by
  obtain ⟨p, hp, ne⟩ := h2
  unfold isUnlikeB
  rw [Bool.and_eq_false_iff]
  right
  rw [List.all_eq_false]
  exact ⟨_, List.mem_map.mpr ⟨p, hp, rfl⟩, by simpa using ne⟩
theorem okx_checked_unlike {f : Addr} {fd : FuncData} (F : Fun K "checked_unlike" "checked_unlike" s_checked_unlike f fd) (e_NotSuch : ErrC K mg cs "NotSuch" 2) (c_checked_sum : CallOk P w K mg base "checked_sum" 4 R_checked_sum) (x_checked_sum_ : CallX P w K mg base cs "checked_sum" 4 X_checked_sum) (c_is_unlike : CallOk P w K mg base "is_unlike" 4 R_is_unlike) : FnOk P w K mg base (L2N.CX P w) 5 f fd ["parts"] (PSpR K cs X_checked_unlike) := by
  refine fn_okR F sc_checked_unlike (by rintro ds d ⟨_, _, rfl⟩; rfl) ?_
  rintro ds d ⟨x, h, rfl⟩ cdv A outer s H E hr
  rcases h with ⟨h, rfl⟩ | ⟨ps, h, h2, rfl, rfl⟩
  · exact drs_setR 1 sc_checked_unlike.nd (dr_call x_checked_sum_ hr (da_any (dm_arg 0) (da_nil)) (x_checked_sum h))
  · have hl := h.len
    refine drs_set 1 sc_checked_unlike.nd (m := .cl) (d := pL ps) (dm_call c_checked_sum hr (da_any (dm_arg 0) (da_nil)) (r_checked_sum h)) ?_
    exact drs_if1 (dt_not (dt_val (dm_call c_is_unlike hr (da_any (dm_val 1) (da_nil)) (r_is_unlike (by omega))))) (fun _ => drs_err rfl e_NotSuch) (fun hk => by rw [un_not h2] at hk; cases hk)
def X_check_leader : List D → Nat → Prop := fun ds i => ∃ x, (tame1 x = true ∧ numB 2 x = false) ∧ ds = [x] ∧ i = 1
theorem x_check_leader {x : D} (h : tame1 x = true) (h2 : numB 2 x = false) : X_check_leader [x] 1 := ⟨x, ⟨h, h2⟩, rfl, rfl⟩
theorem okx_check_leader {f : Addr} {fd : FuncData} (F : Fun K "check_leader" "check_leader" s_check_leader f fd) (e_BadNumber : ErrC K mg cs "BadNumber" 1) (c_is_number_from : CallOk P w K mg base "is_number_from" 1 R_is_number_from) : FnOk P w K mg base (L2N.CX P w) 2 f fd ["by"] (PSpR K cs X_check_leader) := by
  refine fn_okR F sc_check_leader (by rintro ds d ⟨_, _, rfl, rfl⟩; rfl) ?_
  rintro ds d ⟨x, ⟨h, h2⟩, rfl, rfl⟩ cdv A outer s H E hr
  exact drs_if1 (dt_not (dt_val (dm_call c_is_number_from hr (da_any (dm_int) (da_any (dm_arg 0) (da_nil))) (r_is_number_from h)))) (fun _ => drs_err rfl e_BadNumber) (fun hk => by rw [h2] at hk; cases hk)
def X_one : List D → Nat → Prop := fun ds i => ∃ x, BadS x ∧ ds = [x] ∧ i = 0
theorem x_one {x : D} (h : BadS x) : X_one [x] 0 := ⟨x, h, rfl, rfl⟩
def N_whole : List Str := ["parts", "part", "count"]
theorem sc_whole : FnScope N_whole ["parts"] (defScope s_whole) := ⟨rfl, rfl, rfl, by decide +kernel, rfl, by decide +kernel, by decide +kernel⟩
theorem okx_whole {f : Addr} {fd : FuncData} (F : Fun K "whole" "whole" s_whole f fd) (z_sum : mg "sum" = none) (x_checked_sum_ : CallX P w K mg base cs "checked_sum" 4 X_checked_sum) : FnOk P w K mg base (L2N.CX P w) 5 f fd ["parts"] (PSpR K cs X_one) := by
  refine fn_okR F sc_whole (by rintro ds d ⟨_, _, rfl, rfl⟩; rfl) ?_
  rintro ds d ⟨x, h, rfl, rfl⟩ cdv A outer s H E hr
  exact drs_retR (dr_sum rfl z_sum (dra_cons (dr_lc rfl sc_whole.nd (blk (N := N_whole) (sc := defScope s_whole) (own := [("part", 1), ("count", 2)]) (by decide +kernel)) (dr_call x_checked_sum_ hr (da_any (dm_arg 0) (da_nil)) (x_checked_sum h)))))
def N_often : List Str := ["parts", "count", "_"]
theorem sc_often : FnScope N_often ["parts"] (defScope s_often) := ⟨rfl, rfl, rfl, by decide +kernel, rfl, by decide +kernel, by decide +kernel⟩
theorem okx_often {f : Addr} {fd : FuncData} (F : Fun K "often" "often" s_often f fd) (z_sum : mg "sum" = none) (x_checked_sum_ : CallX P w K mg base cs "checked_sum" 4 X_checked_sum) : FnOk P w K mg base (L2N.CX P w) 5 f fd ["parts"] (PSpR K cs X_one) := by
  refine fn_okR F sc_often (by rintro ds d ⟨_, _, rfl, rfl⟩; rfl) ?_
  rintro ds d ⟨x, h, rfl, rfl⟩ cdv A outer s H E hr
  exact drs_retR (dr_sum rfl z_sum (dra_cons (dr_lc rfl sc_often.nd (blk (N := N_often) (sc := defScope s_often) (own := [("count", 1), ("_", 2)]) (by decide +kernel)) (dr_call x_checked_sum_ hr (da_any (dm_arg 0) (da_nil)) (x_checked_sum h)))))
end
end KX
set_option Elab.async false
set_option linter.all false
set_option maxRecDepth 100000
set_option maxHeartbeats 4000000
namespace KX
open PySem PySem.Spec L2 DW MP
theorem hd_drop (ps : PP) (i : Nat) : hdP 0 (ps.drop (i + 1)) = if ((i : Nat) : Int) + 1 < (ps.length : Int) then (ps.getD (i + 1) (0, 0)).1 else 0 := by
  by_cases h : i + 1 < ps.length
  · rw [if_pos (by omega), List.drop_eq_getElem_cons h, List.getD_eq_getElem?_getD, List.getElem?_eq_getElem h]; rfl
  · rw [if_neg (by omega), List.drop_eq_nil_of_le (by omega)]; rfl
theorem ite_dec {c : Prop} [Decidable c] {a b : Int} : (if decide c = true then D.int a else D.int b) = D.int (if c then a else b) := by
  by_cases h : c
  · rw [if_pos (decide_eq_true h), if_pos h]
  · rw [if_neg (by simpa using h), if_neg h]
theorem drop_cons {α : Type} {l : List α} {i : Nat} {p : α} (h : l[i]? = some p) : l.drop i = p :: l.drop (i + 1) := by
  obtain ⟨hi, e⟩ := List.getElem?_eq_some_iff.mp h
  rw [List.drop_eq_getElem_cons hi, e]
theorem zip_get {α : Type} {l : List α} {i : Nat} {q : α × Nat} (h : l.zipIdx[i]? = some q) : l[i]? = some q.1 ∧ q.2 = i := by
  rw [List.getElem?_zipIdx] at h
  obtain ⟨x, hx, rfl⟩ := Option.map_eq_some_iff.mp h
  exact ⟨hx, by omega⟩
structure SumV (ps : PP) : Prop where
  fall : FallP ps
  pos : ∀ p ∈ ps, 0 < p.1 ∧ 0 < p.2
  sum : sumOf ps < BG
  len : ps.length ≤ 20000
theorem SumV.tops {ps : PP} (h : SumV ps) : ∀ p ∈ ps, p.1 < BG ∧ p.2 < BG := fun p hp => by
  have h1 := (pos_sum h.pos).2 p hp
  have h2 := le_prod (h.pos p hp)
  have h3 := h.sum
  omega
theorem ib_of_le {i j : Int} {n : Nat} (h0 : 0 ≤ i) (h : i ≤ j) (hj : ib j ≤ n) : ib i ≤ n := by
  have h1 : j.natAbs < 2 ^ n := Nat.lt_of_lt_of_le (lt_ib j) (Nat.pow_le_pow_right (by decide) hj)
  exact ib_le (by omega)
theorem SumV.ok {ps : PP} (h : SumV ps) : SumOk ps := by
  refine ⟨h.fall, h.pos, fun p hp => ?_, by have := h.len; omega⟩
  have t := h.tops p hp
  have q := h.pos p hp
  have := bg_ib
  exact ⟨ib_of_le (j := BG) (by omega) (by omega) (by omega), ib_of_le (j := BG) (by omega) (by omega) (by omega)⟩
theorem SumV.col {ps : PP} (h : SumV ps) : SumV (colP ps) := ⟨col_fall h.fall h.pos, col_pos h.fall h.pos, by rw [col_sum]; exact h.sum, by rw [col_len]; exact h.len⟩
section
variable {P : Program} {w : World} {K : PySem.W.Frag} {mg : Str → Option Value} {base : Heap}
def R_columns : List D → D → Prop := fun ds d => ∃ ps : PP, ps.length ≤ 80000 ∧ ds = [pL ps] ∧ d = pL (colP ps)
theorem r_columns {ps : PP} (h : ps.length ≤ 80000) : R_columns [pL ps] (pL (colP ps)) := ⟨ps, h, rfl, rfl⟩
def N_columns : List Str := ["pairs", "runs", "height", "at", "shorter", "part", "count"]
theorem sc_columns : FnScope N_columns ["pairs"] (defScope s_columns) := ⟨rfl, rfl, rfl, by decide +kernel, rfl, by decide +kernel, by decide +kernel⟩
theorem ok_columns {f : Addr} {fd : FuncData} (F : Fun K "columns" "columns" s_columns f fd) (z_enumerate : mg "enumerate" = none) (z_len : mg "len" = none) : FnOk P w K mg base CX0 1 f fd ["pairs"] (PSp K R_columns) := by
  refine fn_ok F sc_columns (by rintro ds d ⟨_, _, rfl, rfl⟩; rfl) ?_
  rintro ds d ⟨ps, hl, rfl, rfl⟩ cdv A outer s H E hr
  refine dss_setN 1 (ds := []) sc_columns.nd dn_nil rfl ?_
  refine dss_set 2 sc_columns.nd (m := .cl) (d := .int 0) (dm_int) ?_
  refine dss_for (m := .cl) (ds := ps.zipIdx.map fun q => D.tup [.int (q.2 : Nat), pD q.1]) (fun i env => ∃ (h : Int) (Ru : PP) (a b c e : DW.Slot), Ru ++ colT 0 h (ps.drop i) = colT 0 0 ps ∧ env = ([.arg (pL ps), .own 0, .val (.int h), a, b, c, e], [pL Ru])) PassesOwn.never rfl (di_en (enc := pD) (imL fun _ => rfl) (by decide) z_enumerate (dm_arg 0)) ⟨0, [], _, _, _, _, rfl, rfl⟩ ?_ ?_
  · rintro i d env hd ⟨h, Ru, a, b, c, e, e1, rfl⟩
    rw [List.getElem?_map] at hd
    obtain ⟨q, hq, rfl⟩ := Option.map_eq_some_iff.mp hd
    obtain ⟨hp, rfl⟩ := zip_get hq
    obtain ⟨p, i⟩ := q
    have hi : i < ps.length := (List.getElem?_eq_some_iff.mp hp).1
    rw [drop_cons hp] at e1
    have len : Ru.length < 100000 := by
      have := congrArg List.length e1
      rw [List.length_append, colT_len, colT_len] at this
      omega
    refine ⟨_, _, dg_tup rfl (dgs_cons (dg_name 3 sc_columns.nd) (dgs_cons (dg_pair 5 6 rfl sc_columns.nd) (dgs_nil))), rfl, ?_⟩
    refine dss_set 2 sc_columns.nd (m := .cl) (d := .int (h + p.2)) (dm_add (dm_val 2) (dm_val 6)) ?_
    refine dss_set 4 sc_columns.nd (m := .cl) (d := .int (hdP 0 (ps.drop (i + 1)))) (.is (dm_ite (m := .cl) (dt_lt (dm_add (dm_val 3) (dm_int)) (dm_lenT' (enc := pD) z_len (dm_arg 0))) (fun hk => dm_p0 (dm_ixL (enc := pD) (x := ps.getD (i + 1) (0, 0)) (dm_arg 0) (dm_add (dm_val 3) (dm_int)) (atI_nat' (xs := ps) (j := i + 1) (0, 0) (by have : ((i : Nat) : Int) + 1 < (ps.length : Int) := of_decide_eq_true hk; omega)))) (fun _ => dm_int)) (by rw [hd_drop]; exact ite_dec)) ?_
    refine dss_appP 1 (l := Ru) (q := (h + p.2, p.1 - hdP 0 (ps.drop (i + 1)))) (dm_pair (dm_val 2) (dm_sub (dm_val 5) (dm_val 4))) (dss_nil ⟨h + p.2, Ru ++ [(h + p.2, p.1 - hdP 0 (ps.drop (i + 1)))], _, _, _, _, by rw [List.append_assoc]; exact e1, rfl⟩) len
  · rintro env ⟨h, Ru, a, b, c, e, e1, rfl⟩
    rw [List.length_map, List.length_zipIdx, List.drop_length] at e1
    have e2 : Ru = colT 0 0 ps := by rw [← e1]; exact (List.append_nil _).symm
    subst e2
    exact dss_ret (dm_revT (enc := pD) (dm_own 1) (imL fun _ => rfl)) rfl
end
def tD (t : T3) : D := .tup [.int t.1, .int t.2.1, .int t.2.2]
abbrev tL (l : List T3) : D := .lst (l.map tD)
theorem tL_snoc (l : List T3) (x : T3) : D.lst (l.map tD ++ [tD x]) = tL (l ++ [x]) := by
  have h := congrArg D.lst (List.map_append (f := tD) (l₁ := l) (l₂ := [x]))
  exact h.symm
theorem mid_len : ∀ (ps : PP) (b : Int), (midF b ps).length ≤ ps.length
  | [], _ => Nat.le_refl _
  | p :: r, b => by
    rw [midF]
    split
    · have := mid_len r (min (b + p.2) p.1)
      rw [List.length_cons, List.length_cons]; omega
    · have := mid_len r b
      rw [List.length_cons]; omega
def hookB (t : T3) : List Int := (List.range (t.2.2 - t.2.1).toNat).map fun i : Nat => t.2.1 + (i : Int)
theorem mid_ok : ∀ (ps : PP) (b : Int), ∀ t ∈ midF b ps, b ≤ t.2.1 ∧ t.2.1 < t.2.2
  | [], _, t, h => by cases h
  | p :: r, b, t, h => by
    rw [midF] at h
    split at h
    · rcases List.mem_cons.mp h with rfl | h
      · rename_i hb
        exact ⟨Int.le_refl _, hb⟩
      · have := mid_ok r _ t h
        omega
    · exact mid_ok r b t h
theorem mid_tot : ∀ (ps : PP) (b N : Int), b ≤ N → (∀ t ∈ midF b ps, t.2.2 ≤ N) → (((midF b ps).flatMap hookB).length : Int) ≤ N - b
  | [], b, N, hb, _ => by show (0 : Int) ≤ _; omega
  | p :: r, b, N, hb, h => by
    rw [midF] at h ⊢
    split
    · rename_i lt
      rw [if_pos lt] at h
      have h1 := h _ (List.mem_cons_self ..)
      have ih := mid_tot r (min (b + p.2) p.1) N h1 fun t ht => h t (List.mem_cons_of_mem _ ht)
      have e : (hookB (p.1, b, min (b + p.2) p.1)).length = (min (b + p.2) p.1 - b).toNat := by
        unfold hookB
        rw [List.length_map, List.length_range]
      rw [List.flatMap_cons, List.length_append, e, Int.natCast_add]
      omega
    · rename_i lt
      rw [if_neg lt] at h
      exact mid_tot r b N hb h
theorem hook_of (t : T3) : (hookB t).map (fun x => pD (2 * (t.1 - x) - 1, 1)) = (hookF t).map pD := by
  unfold hookB hookF
  rw [List.map_map, List.map_map]; rfl
section
variable {P : Program} {w : World} {K : PySem.W.Frag} {mg : Str → Option Value} {base : Heap}
def R_middle_rows : List D → D → Prop := fun ds d => ∃ ps : PP, ps.length ≤ 80000 ∧ ds = [pL ps] ∧ d = tL (midF 0 ps)
theorem r_middle_rows {ps : PP} (h : ps.length ≤ 80000) : R_middle_rows [pL ps] (tL (midF 0 ps)) := ⟨ps, h, rfl, rfl⟩
def N_middle_rows : List Str := ["pairs", "found", "begin", "part", "count", "end"]
theorem sc_middle_rows : FnScope N_middle_rows ["pairs"] (defScope s_middle_rows) := ⟨rfl, rfl, rfl, by decide +kernel, rfl, by decide +kernel, by decide +kernel⟩
theorem ok_middle_rows {f : Addr} {fd : FuncData} (F : Fun K "middle_rows" "middle_rows" s_middle_rows f fd) (z_min : mg "min" = none) : FnOk P w K mg base CX0 1 f fd ["pairs"] (PSp K R_middle_rows) := by
  refine fn_ok F sc_middle_rows (by rintro ds d ⟨_, _, rfl, rfl⟩; rfl) ?_
  rintro ds d ⟨ps, hl, rfl, rfl⟩ cdv A outer s H E hr
  refine dss_setN 1 (ds := []) sc_middle_rows.nd dn_nil rfl ?_
  refine dss_set 2 sc_middle_rows.nd (m := .cl) (d := .int 0) (dm_int) ?_
  refine dss_for (m := .ar) (ds := ps.map pD) (fun i env => ∃ (b : Int) (Fo : List T3) (a c e : DW.Slot), Fo ++ midF b (ps.drop i) = midF 0 ps ∧ env = ([.arg (pL ps), .own 0, .val (.int b), a, c, e], [tL Fo])) PassesOwn.never rfl (di_list (by decide) (dm_arg 0)) ⟨0, [], _, _, _, rfl, rfl⟩ ?_ ?_
  · rintro i d env hd ⟨b, Fo, a, c, e, e1, rfl⟩
    rw [List.getElem?_map] at hd
    obtain ⟨p, hp, rfl⟩ := Option.map_eq_some_iff.mp hd
    have len : Fo.length ≤ 80000 := by
      have h1 := congrArg List.length e1
      have h2 := mid_len ps 0
      rw [List.length_append] at h1
      omega
    rw [drop_cons hp, midF] at e1
    refine ⟨_, _, dg_pair 3 4 rfl sc_middle_rows.nd, rfl, ?_⟩
    refine dss_set 5 sc_middle_rows.nd (m := .cl) (d := .int (min (b + p.2) p.1)) (dm_min2 rfl z_min (dm_add (dm_val 2) (dm_arg 4)) (dm_arg 3)) ?_
    refine dss_if1 (dt_gt (dm_val 5) (dm_val 2)) (fun hk => ?_) (fun hk => ?_)
    · rw [if_pos (of_decide_eq_true hk)] at e1
      refine dss_app 1 (ds := Fo.map tD) (d := tD (p.1, b, min (b + p.2) p.1)) (dm_tup (da_cons (dm_cl (dm_arg 3) rfl) (da_cons (dm_val 2) (da_cons (dm_val 5) (da_nil)))) (by show 3 ≤ 100000; decide)) rfl ?_ (by rw [List.length_map]; omega)
      rw [tL_snoc]
      refine dss_set 2 sc_middle_rows.nd (m := .cl) (d := .int (min (b + p.2) p.1)) (dm_val 5) (dss_nil (dss_nil ⟨_, _, _, _, _, ?_, rfl⟩))
      rw [List.append_assoc]; exact e1
    · rw [if_neg (of_decide_eq_false hk)] at e1
      exact dss_nil ⟨_, _, _, _, _, e1, rfl⟩
  · rintro env ⟨b, Fo, a, c, e, e1, rfl⟩
    rw [List.length_map, List.drop_length] at e1
    have e2 : Fo = midF 0 ps := by rw [← e1]; exact (List.append_nil _).symm
    subst e2
    exact dss_freeze (dss_ret (dm_val 1) rfl)
structure HoOk (ps : PP) : Prop where
  v : SumV ps
  own : colP ps = ps
  few : ∀ t ∈ midF 0 ps, t.2.2 ≤ 1000
def R_hooks : List D → D → Prop := fun ds d => ∃ ps : PP, HoOk ps ∧ ds = [pL ps] ∧ d = pL (hookP ps)
theorem r_hooks {ps : PP} (h : HoOk ps) : R_hooks [pL ps] (pL (hookP ps)) := ⟨ps, h, rfl, rfl⟩
def N_hooks : List Str := ["parts", "pairs", "middles", "part", "begin", "end", "row"]
theorem sc_hooks : FnScope N_hooks ["parts"] (defScope s_hooks) := ⟨rfl, rfl, rfl, by decide +kernel, rfl, by decide +kernel, by decide +kernel⟩
theorem ok_hooks {f : Addr} {fd : FuncData} (F : Fun K "hooks" "hooks" s_hooks f fd) (z_range : mg "range" = none) (gMost : ∃ t, mg "MOST_HOOKS" = some (.int 1000 t)) (c_checked_sum : CallOk P w K mg base "checked_sum" 4 R_checked_sum) (c_columns : CallOk P w K mg base "columns" 1 R_columns) (c_middle_rows : CallOk P w K mg base "middle_rows" 1 R_middle_rows) : FnOk P w K mg base CX0 5 f fd ["parts"] (PSp K R_hooks) := by
  refine fn_ok F sc_hooks (by rintro ds d ⟨_, _, rfl, rfl⟩; rfl) ?_
  rintro ds d ⟨ps, h, rfl, rfl⟩ cdv A outer s H E hr
  have hl := h.v.len
  have ml := mid_len ps 0
  have mt := mid_tot ps 0 1000 (by decide) h.few
  refine dss_set 1 sc_hooks.nd (m := .cl) (d := pL ps) (dm_call c_checked_sum hr (da_any (dm_arg 0) (da_nil)) (r_checked_sum h.v.ok)) ?_
  refine dss_if1 (k := !decide (colP ps = ps)) (dt_neT (enc := pL) eqv_pL cmp_pL hr.units (dm_call c_columns hr (da_any (dm_val 1) (da_nil)) (r_columns (by omega))) (dm_val 1)) (fun hk => by rw [h.own] at hk; simp at hk) (fun _ => ?_)
  refine dss_set 2 sc_hooks.nd (m := .cl) (d := tL (midF 0 ps)) (dm_call c_middle_rows hr (da_any (dm_val 1) (da_nil)) (r_middle_rows (by omega))) ?_
  have few : ∀ hne : midF 0 ps ≠ [], ((midF 0 ps).getLastD (0, 0, 0)).2.2 ≤ 1000 := fun hne => by
    refine h.few _ ?_
    cases e : midF 0 ps with
    | nil => exact absurd e hne
    | cons t r => exact List.getLast_mem (l := t :: r) (by simp)
  refine dss_if1 (k := !((midF 0 ps).map tD).isEmpty && decide (1000 < ((midF 0 ps).getLastD (0, 0, 0)).2.2)) (DW'.dt (dw_and (dt_lst (dm_val 2)) (fun hne => dw_and1 (dt_gt (dm_ixT (ds := [.int ((midF 0 ps).getLastD (0, 0, 0)).1, .int ((midF 0 ps).getLastD (0, 0, 0)).2.1, .int ((midF 0 ps).getLastD (0, 0, 0)).2.2]) (dm_ixL (enc := tD) (x := (midF 0 ps).getLastD (0, 0, 0)) (dm_val 2) (dm_neg (dm_int)) (atI_last' (0, 0, 0) ?_)) (dm_int) rfl) (dm_glob gMost))))) (fun hk => ?_) (fun _ => ?_)
  · intro z; rw [z] at hne; cases hne
  · rw [Bool.and_eq_true, decide_eq_true_eq] at hk
    have := few (fun z => by rw [z] at hk; cases hk.1)
    omega
  refine dss_ret (.is (dm_lc2 [6] (as := midF 0 ps) (enc := tD) (bs := hookB) (enc1 := D.int) (f := fun t x => pD (2 * (t.1 - x) - 1, 1)) rfl sc_hooks.nd (blk (N := N_hooks) (sc := defScope s_hooks) (own := [("part", 3), ("begin", 4), ("end", 5), ("row", 6)]) (by decide +kernel)) (di_list (by decide) (dm_val 2)) (fun a ha s H C c fp => dg_tup rfl (dgs_cons (dg_name 3 sc_hooks.nd) (dgs_cons (dg_name 4 sc_hooks.nd) (dgs_cons (dg_name 5 sc_hooks.nd) (dgs_nil))))) (fun _ _ => rfl) (fun t ht s H C c fp => DI.is (di_rng2 z_range (dm_val 4) (dm_val 5) ?_ ?_ ?_ ?_) ?_) (fun t ht x hx s H C c fp => dg_name 6 sc_hooks.nd) (fun t ht x hx s H C c fp => dm_pair (dm_sub (dm_mulS (dm_int) (dm_sub (dm_val 3) (dm_val 6)) (cm_l (by decide))) (dm_int)) (dm_int)) (by omega)) ?_) rfl
  · have := mid_ok ps 0 t ht; omega
  · have := mid_ok ps 0 t ht; have := h.few t ht; omega
  · have := mid_ok ps 0 t ht; omega
  · have := mid_ok ps 0 t ht; have := h.few t ht; omega
  · unfold hookB
    rw [List.map_map]; rfl
  · show D.lst _ = pL (hookP ps)
    unfold hookP pL
    rw [List.map_flatMap]
    congr 2
    funext t
    exact hook_of t
variable {cs : Nat → Addr}
def N_turned : List Str := ["parts"]
theorem sc_turned : FnScope N_turned ["parts"] (defScope s_turned) := ⟨rfl, rfl, rfl, by decide +kernel, rfl, by decide +kernel, by decide +kernel⟩
theorem okx_turned {f : Addr} {fd : FuncData} (F : Fun K "turned" "turned" s_turned f fd) (x_checked_sum_ : CallX P w K mg base cs "checked_sum" 4 X_checked_sum) (c_columns : CallOk P w K mg base "columns" 1 R_columns) : FnOk P w K mg base (L2N.CX P w) 5 f fd ["parts"] (PSpR K cs X_one) := by
  refine fn_okR F sc_turned (by rintro ds d ⟨_, _, rfl, rfl⟩; rfl) ?_
  rintro ds d ⟨x, h, rfl, rfl⟩ cdv A outer s H E hr
  exact drs_retR (dr_argF c_columns hr (dra_cons (dr_call x_checked_sum_ hr (da_any (dm_arg 0) (da_nil)) (x_checked_sum h))))
def N_is_own : List Str := ["parts", "pairs"]
theorem sc_is_own : FnScope N_is_own ["parts"] (defScope s_is_own) := ⟨rfl, rfl, rfl, by decide +kernel, rfl, by decide +kernel, by decide +kernel⟩
theorem okx_is_own {f : Addr} {fd : FuncData} (F : Fun K "is_own" "is_own" s_is_own f fd) (x_checked_sum_ : CallX P w K mg base cs "checked_sum" 4 X_checked_sum) : FnOk P w K mg base (L2N.CX P w) 5 f fd ["parts"] (PSpR K cs X_one) := by
  refine fn_okR F sc_is_own (by rintro ds d ⟨_, _, rfl, rfl⟩; rfl) ?_
  rintro ds d ⟨x, h, rfl, rfl⟩ cdv A outer s H E hr
  exact drs_setR 1 sc_is_own.nd (dr_call x_checked_sum_ hr (da_any (dm_arg 0) (da_nil)) (x_checked_sum h))
def X_hooks : List D → Nat → Prop := fun ds i => ∃ x, ((BadS x ∧ i = 0) ∨ (∃ ps : PP, SumV ps ∧ colP ps ≠ ps ∧ x = pL ps ∧ i = 2) ∨ (∃ ps : PP, SumV ps ∧ colP ps = ps ∧ midF 0 ps ≠ [] ∧ 1000 < ((midF 0 ps).getLastD (0, 0, 0)).2.2 ∧ x = pL ps ∧ i = 3)) ∧ ds = [x]
theorem okx_hooks {f : Addr} {fd : FuncData} (F : Fun K "hooks" "hooks" s_hooks f fd) (gMost : ∃ t, mg "MOST_HOOKS" = some (.int 1000 t)) (e_NotSuch : ErrC K mg cs "NotSuch" 2) (e_TooMany : ErrC K mg cs "TooMany" 3) (c_checked_sum : CallOk P w K mg base "checked_sum" 4 R_checked_sum) (x_checked_sum_ : CallX P w K mg base cs "checked_sum" 4 X_checked_sum) (c_columns : CallOk P w K mg base "columns" 1 R_columns) (c_middle_rows : CallOk P w K mg base "middle_rows" 1 R_middle_rows) : FnOk P w K mg base (L2N.CX P w) 5 f fd ["parts"] (PSpR K cs X_hooks) := by
  refine fn_okR F sc_hooks (by rintro ds d ⟨_, _, rfl⟩; rfl) ?_
  rintro ds d ⟨x, h, rfl⟩ cdv A outer s H E hr
  rcases h with ⟨h, rfl⟩ | ⟨ps, h, h2, rfl, rfl⟩ | ⟨ps, h, h2, h3, h4, rfl, rfl⟩
  · exact drs_setR 1 sc_hooks.nd (dr_call x_checked_sum_ hr (da_any (dm_arg 0) (da_nil)) (x_checked_sum h))
  · have hl := h.len
    refine drs_set 1 sc_hooks.nd (m := .cl) (d := pL ps) (dm_call c_checked_sum hr (da_any (dm_arg 0) (da_nil)) (r_checked_sum h.ok)) ?_
    exact drs_if1 (k := !decide (colP ps = ps)) (dt_neT (enc := pL) eqv_pL cmp_pL hr.units (dm_call c_columns hr (da_any (dm_val 1) (da_nil)) (r_columns (by omega))) (dm_val 1)) (fun _ => drs_err rfl e_NotSuch) (fun hk => absurd (by simpa using hk) h2)
  · have hl := h.len
    have ml := mid_len ps 0
    refine drs_set 1 sc_hooks.nd (m := .cl) (d := pL ps) (dm_call c_checked_sum hr (da_any (dm_arg 0) (da_nil)) (r_checked_sum h.ok)) ?_
    refine drs_if1 (k := !decide (colP ps = ps)) (dt_neT (enc := pL) eqv_pL cmp_pL hr.units (dm_call c_columns hr (da_any (dm_val 1) (da_nil)) (r_columns (by omega))) (dm_val 1)) (fun hk => by rw [h2] at hk; simp at hk) (fun _ => ?_)
    refine drs_set 2 sc_hooks.nd (m := .cl) (d := tL (midF 0 ps)) (dm_call c_middle_rows hr (da_any (dm_val 1) (da_nil)) (r_middle_rows (by omega))) ?_
    refine drs_if1 (k := !((midF 0 ps).map tD).isEmpty && decide (1000 < ((midF 0 ps).getLastD (0, 0, 0)).2.2)) (DW'.dt (dw_and (dt_lst (dm_val 2)) (fun hne => dw_and1 (dt_gt (dm_ixT (ds := [.int ((midF 0 ps).getLastD (0, 0, 0)).1, .int ((midF 0 ps).getLastD (0, 0, 0)).2.1, .int ((midF 0 ps).getLastD (0, 0, 0)).2.2]) (dm_ixL (enc := tD) (x := (midF 0 ps).getLastD (0, 0, 0)) (dm_val 2) (dm_neg (dm_int)) (atI_last' (0, 0, 0) h3)) (dm_int) rfl) (dm_glob gMost))))) (fun _ => drs_err rfl e_TooMany) (fun hk => ?_)
    rw [decide_eq_true h4, Bool.and_true] at hk
    cases e : midF 0 ps with
    | nil => exact absurd e h3
    | cons t r => rw [e] at hk; cases hk
theorem first_bad {α : Type} {B : α → Prop} : ∀ {l : List α}, (∃ p ∈ l, B p) → ∃ (n : Nat) (p : α), l[n]? = some p ∧ B p ∧ ∀ i q, i < n → l[i]? = some q → ¬ B q
  | [], h => by obtain ⟨p, hp, _⟩ := h; cases hp
  | x :: l, h => by
    by_cases hx : B x
    · exact ⟨0, x, rfl, hx, fun i q hi => absurd hi (Nat.not_lt_zero i)⟩
    · have h' : ∃ p ∈ l, B p := by
        obtain ⟨p, hp, hB⟩ := h
        rcases List.mem_cons.mp hp with rfl | hp
        · exact absurd hB hx
        · exact ⟨p, hp, hB⟩
      obtain ⟨n, p, h1, h2, h3⟩ := first_bad h'
      refine ⟨n + 1, p, h1, h2, fun i q hi hq => ?_⟩
      cases i with
      | zero => obtain rfl : x = q := Option.some.inj hq; exact hx
      | succ i => exact h3 i q (by omega) hq
def X_folded : List D → Nat → Prop := fun ds i => ∃ x, ((BadS x ∧ i = 0) ∨ (∃ ps : PP, SumOk ps ∧ (∃ p ∈ ps, p.2 ≠ 1) ∧ x = pL ps ∧ i = 2) ∨ (∃ ps : PP, SumOk ps ∧ (∀ p ∈ ps, p.2 = 1) ∧ (∃ p ∈ ps, p.1 % 2 = 0) ∧ x = pL ps ∧ i = 2)) ∧ ds = [x]
def N_folded : List Str := ["parts", "pairs", "many", "above", "right", "part", "_", "row", "count", "at"]
theorem sc_folded : FnScope N_folded ["parts"] (defScope s_folded) := ⟨rfl, rfl, rfl, by decide +kernel, rfl, by decide +kernel, by decide +kernel⟩
theorem okx_folded {f : Addr} {fd : FuncData} (F : Fun K "folded" "folded" s_folded f fd) (e_NotSuch : ErrC K mg cs "NotSuch" 2) (c_checked_unlike : CallOk P w K mg base "checked_unlike" 5 R_checked_unlike) (x_checked_unlike_ : CallX P w K mg base cs "checked_unlike" 5 X_checked_unlike) : FnOk P w K mg base (L2N.CX P w) 6 f fd ["parts"] (PSpR K cs X_folded) := by
  refine fn_okR F sc_folded (by rintro ds d ⟨_, _, rfl⟩; rfl) ?_
  rintro ds d ⟨x, h, rfl⟩ cdv A outer s H E hr
  rcases h with ⟨h, rfl⟩ | ⟨ps, h, h2, rfl, rfl⟩ | ⟨ps, h, h2, h3, rfl, rfl⟩
  · exact drs_setR 1 sc_folded.nd (dr_call x_checked_unlike_ hr (da_any (dm_arg 0) (da_nil)) (x_checked_unlike0 h))
  · exact drs_setR 1 sc_folded.nd (dr_call x_checked_unlike_ hr (da_any (dm_arg 0) (da_nil)) (x_checked_unlike2 h h2))
  · have hl := h.len
    obtain ⟨n, p, g1, g2, g3⟩ := first_bad h3
    have hn : n < ps.length := (List.getElem?_eq_some_iff.mp g1).1
    refine drs_set 1 sc_folded.nd (m := .cl) (d := pL ps) (dm_call c_checked_unlike hr (da_any (dm_arg 0) (da_nil)) (r_checked_unlike h h2)) ?_
    refine drs_for (m := .cl) (ds := ps.map pD) n (fun i env => ∃ a b, env = ([.arg (pL ps), .val (pL ps), .un, .un, .un, a, b, .un, .un, .un], [])) (passes_of rfl) rfl (di_list (by decide) (dm_val 1)) (by rw [List.length_map]; exact hn) ⟨_, _, rfl⟩ ?_ ?_
    · rintro i d env hin hd ⟨a, b, rfl⟩
      rw [List.getElem?_map] at hd
      obtain ⟨q, hq, rfl⟩ := Option.map_eq_some_iff.mp hd
      refine ⟨_, _, dg_pair 5 6 rfl sc_folded.nd, rfl, ?_⟩
      exact dss_if1 (dt_eq (dm_mod (dm_val 5) (dm_int) (by decide)) (dm_int)) (fun hk => absurd (of_decide_eq_true hk) (g3 i q hin hq)) (fun _ => dss_nil ⟨_, _, rfl⟩)
    · rintro d env hd ⟨a, b, rfl⟩
      rw [List.getElem?_map, g1] at hd
      obtain rfl := Option.some.inj hd
      refine ⟨_, _, dg_pair 5 6 rfl sc_folded.nd, rfl, ?_⟩
      exact drs_if1 (dt_eq (dm_mod (dm_val 5) (dm_int) (by decide)) (dm_int)) (fun _ => drs_err rfl e_NotSuch) (fun hk => absurd g2 (of_decide_eq_false hk))
def X_partner : List D → Nat → Prop := fun ds i => ∃ x, ((BadS x ∧ i = 0) ∨ (∃ ps : PP, SumOk ps ∧ (∃ p ∈ ps, p.2 ≠ 1) ∧ x = pL ps ∧ i = 2)) ∧ ds = [x]
def N_partner : List Str := ["parts", "pairs"]
theorem sc_partner : FnScope N_partner ["parts"] (defScope s_partner) := ⟨rfl, rfl, rfl, by decide +kernel, rfl, by decide +kernel, by decide +kernel⟩
theorem okx_partner {f : Addr} {fd : FuncData} (F : Fun K "partner" "partner" s_partner f fd) (x_checked_unlike_ : CallX P w K mg base cs "checked_unlike" 5 X_checked_unlike) : FnOk P w K mg base (L2N.CX P w) 6 f fd ["parts"] (PSpR K cs X_partner) := by
  refine fn_okR F sc_partner (by rintro ds d ⟨_, _, rfl⟩; rfl) ?_
  rintro ds d ⟨x, h, rfl⟩ cdv A outer s H E hr
  rcases h with ⟨h, rfl⟩ | ⟨ps, h, h2, rfl, rfl⟩
  · exact drs_setR 1 sc_partner.nd (dr_call x_checked_unlike_ hr (da_any (dm_arg 0) (da_nil)) (x_checked_unlike0 h))
  · exact drs_setR 1 sc_partner.nd (dr_call x_checked_unlike_ hr (da_any (dm_arg 0) (da_nil)) (x_checked_unlike2 h h2))
def N_spread : List Str := ["parts", "by", "pairs", "part", "_", "most", "power", "count"]
theorem sc_spread : FnScope N_spread ["parts", "by"] (defScope s_spread) := ⟨rfl, rfl, rfl, by decide +kernel, rfl, by decide +kernel, by decide +kernel⟩
def X_led (B : Int → Int × Int → Prop) : List D → Nat → Prop := fun ds i => ∃ x y, ((BadS x ∧ i = 0) ∨ (∃ ps : PP, SumOk ps ∧ tame1 y = true ∧ numB 2 y = false ∧ x = pL ps ∧ i = 1) ∨ (∃ (ps : PP) (b : Int), SumOk ps ∧ 2 ≤ b ∧ (∃ p ∈ ps, B b p) ∧ x = pL ps ∧ y = .int b ∧ i = 2)) ∧ ds = [x, y]
def X_spread : List D → Nat → Prop := X_led fun b p => p.1 % b = 0
def X_gathered : List D → Nat → Prop := X_led fun b p => b ≤ p.2
theorem okx_spread {f : Addr} {fd : FuncData} (F : Fun K "spread" "spread" s_spread f fd) (e_NotSuch : ErrC K mg cs "NotSuch" 2) (c_checked_sum : CallOk P w K mg base "checked_sum" 4 R_checked_sum) (x_checked_sum_ : CallX P w K mg base cs "checked_sum" 4 X_checked_sum) (c_check_leader : CallOk P w K mg base "check_leader" 2 R_check_leader) (x_check_leader_ : CallX P w K mg base cs "check_leader" 2 X_check_leader) : FnOk P w K mg base (L2N.CX P w) 5 f fd ["parts", "by"] (PSpR K cs X_spread) := by
  refine fn_okR F sc_spread (by rintro ds d ⟨_, _, _, rfl⟩; rfl) ?_
  rintro ds d ⟨x, y, h, rfl⟩ cdv A outer s H E hr
  rcases h with ⟨h, rfl⟩ | ⟨ps, h, h2, h3, rfl, rfl⟩ | ⟨ps, b, h, hb, h3, rfl, rfl, rfl⟩
  · exact drs_setR 2 sc_spread.nd (dr_call x_checked_sum_ hr (da_any (dm_arg 0) (da_nil)) (x_checked_sum h))
  · refine drs_set 2 sc_spread.nd (m := .cl) (d := pL ps) (dm_call c_checked_sum hr (da_any (dm_arg 0) (da_nil)) (r_checked_sum h)) ?_
    exact drs_exprR (dr_call x_check_leader_ hr (da_any (dm_arg 1) (da_nil)) (x_check_leader h2 h3))
  · have hl := h.len
    obtain ⟨n, p, g1, g2, g3⟩ := first_bad h3
    have hn : n < ps.length := (List.getElem?_eq_some_iff.mp g1).1
    refine drs_set 2 sc_spread.nd (m := .cl) (d := pL ps) (dm_call c_checked_sum hr (da_any (dm_arg 0) (da_nil)) (r_checked_sum h)) ?_
    refine drs_expr (dm_call c_check_leader hr (da_any (dm_arg 1) (da_nil)) (r_check_leader hb)) ?_
    refine drs_for (m := .cl) (ds := ps.map pD) n (fun i env => ∃ a c, env = ([.arg (pL ps), .arg (.int b), .val (pL ps), a, c, .un, .un, .un], [])) (passes_of rfl) rfl (di_list (by decide) (dm_val 2)) (by rw [List.length_map]; exact hn) ⟨_, _, rfl⟩ ?_ ?_
    · rintro i d env hin hd ⟨a, c, rfl⟩
      rw [List.getElem?_map] at hd
      obtain ⟨q, hq, rfl⟩ := Option.map_eq_some_iff.mp hd
      refine ⟨_, _, dg_pair 3 4 rfl sc_spread.nd, rfl, ?_⟩
      exact dss_if1 (dt_eq (dm_mod (dm_val 3) (dm_arg 1) (by omega)) (dm_int)) (fun hk => absurd (of_decide_eq_true hk) (g3 i q hin hq)) (fun _ => dss_nil ⟨_, _, rfl⟩)
    · rintro d env hd ⟨a, c, rfl⟩
      rw [List.getElem?_map, g1] at hd
      obtain rfl := Option.some.inj hd
      refine ⟨_, _, dg_pair 3 4 rfl sc_spread.nd, rfl, ?_⟩
      exact drs_if1 (dt_eq (dm_mod (dm_val 3) (dm_arg 1) (by omega)) (dm_int)) (fun _ => drs_err rfl e_NotSuch) (fun hk => absurd g2 (of_decide_eq_false hk))
def N_gathered : List Str := ["parts", "by", "pairs", "_", "count", "known", "counts", "part", "first", "times"]
theorem sc_gathered : FnScope N_gathered ["parts", "by"] (defScope s_gathered) := ⟨rfl, rfl, rfl, by decide +kernel, rfl, by decide +kernel, by decide +kernel⟩
theorem okx_gathered {f : Addr} {fd : FuncData} (F : Fun K "gathered" "gathered" s_gathered f fd) (e_NotSuch : ErrC K mg cs "NotSuch" 2) (c_checked_sum : CallOk P w K mg base "checked_sum" 4 R_checked_sum) (x_checked_sum_ : CallX P w K mg base cs "checked_sum" 4 X_checked_sum) (c_check_leader : CallOk P w K mg base "check_leader" 2 R_check_leader) (x_check_leader_ : CallX P w K mg base cs "check_leader" 2 X_check_leader) : FnOk P w K mg base (L2N.CX P w) 5 f fd ["parts", "by"] (PSpR K cs X_gathered) := by
  refine fn_okR F sc_gathered (by rintro ds d ⟨_, _, _, rfl⟩; rfl) ?_
  rintro ds d ⟨x, y, h, rfl⟩ cdv A outer s H E hr
  rcases h with ⟨h, rfl⟩ | ⟨ps, h, h2, h3, rfl, rfl⟩ | ⟨ps, b, h, hb, h3, rfl, rfl, rfl⟩
  · exact drs_setR 2 sc_gathered.nd (dr_call x_checked_sum_ hr (da_any (dm_arg 0) (da_nil)) (x_checked_sum h))
  · refine drs_set 2 sc_gathered.nd (m := .cl) (d := pL ps) (dm_call c_checked_sum hr (da_any (dm_arg 0) (da_nil)) (r_checked_sum h)) ?_
    exact drs_exprR (dr_call x_check_leader_ hr (da_any (dm_arg 1) (da_nil)) (x_check_leader h2 h3))
  · have hl := h.len
    obtain ⟨n, p, g1, g2, g3⟩ := first_bad h3
    have hn : n < ps.length := (List.getElem?_eq_some_iff.mp g1).1
    refine drs_set 2 sc_gathered.nd (m := .cl) (d := pL ps) (dm_call c_checked_sum hr (da_any (dm_arg 0) (da_nil)) (r_checked_sum h)) ?_
    refine drs_expr (dm_call c_check_leader hr (da_any (dm_arg 1) (da_nil)) (r_check_leader hb)) ?_
    refine drs_for (m := .cl) (ds := ps.map pD) n (fun i env => ∃ a c, env = ([.arg (pL ps), .arg (.int b), .val (pL ps), a, c, .un, .un, .un, .un, .un], [])) (passes_of rfl) rfl (di_list (by decide) (dm_val 2)) (by rw [List.length_map]; exact hn) ⟨_, _, rfl⟩ ?_ ?_
    · rintro i d env hin hd ⟨a, c, rfl⟩
      rw [List.getElem?_map] at hd
      obtain ⟨q, hq, rfl⟩ := Option.map_eq_some_iff.mp hd
      refine ⟨_, _, dg_pair 3 4 rfl sc_gathered.nd, rfl, ?_⟩
      exact dss_if1 (dt_ge (dm_val 4) (dm_arg 1)) (fun hk => absurd (of_decide_eq_true hk) (g3 i q hin hq)) (fun _ => dss_nil ⟨_, _, rfl⟩)
    · rintro d env hd ⟨a, c, rfl⟩
      rw [List.getElem?_map, g1] at hd
      obtain rfl := Option.some.inj hd
      refine ⟨_, _, dg_pair 3 4 rfl sc_gathered.nd, rfl, ?_⟩
      exact drs_if1 (dt_ge (dm_val 4) (dm_arg 1)) (fun _ => drs_err rfl e_NotSuch) (fun hk => absurd g2 (of_decide_eq_false hk))
def R_squared_powers : List D → D → Prop := fun ds d => ∃ b most : Int, most < b ∧ ds = [.int b, .int most] ∧ d = iL []
def N_squared_powers : List Str := ["by", "most", "powers", "power"]
theorem sc_squared_powers : FnScope N_squared_powers ["by", "most"] (defScope s_squared_powers) := ⟨rfl, rfl, rfl, by decide +kernel, rfl, by decide +kernel, by decide +kernel⟩
theorem ok_squared_powers {f : Addr} {fd : FuncData} (F : Fun K "squared_powers" "squared_powers" s_squared_powers f fd) : FnOk P w K mg base CX0 1 f fd ["by", "most"] (PSp K R_squared_powers) := by
  refine fn_ok F sc_squared_powers (by rintro ds d ⟨_, _, _, rfl, rfl⟩; rfl) ?_
  rintro ds d ⟨b, most, h, rfl, rfl⟩ cdv A outer s H E hr
  refine dss_setN 2 (ds := []) sc_squared_powers.nd dn_nil rfl ?_
  refine dss_set 3 sc_squared_powers.nd (m := .cl) (d := .int b) (dm_cl (dm_arg 0) rfl) ?_
  refine dss_while (fun n env => env = ([.arg (.int b), .arg (.int most), .own 0, .val (.int b)], [iL []])) PassesOwn.never (n := 0) rfl ?_
  rintro n env rfl
  refine ⟨decide (b ≤ most), dt_le (dm_val 3) (dm_arg 1), fun hk => ?_, fun _ => ?_⟩
  · have := of_decide_eq_true hk
    omega
  exact dss_freeze (dss_ret (dm_val 2) rfl)
def R_spread : List D → D → Prop := fun ds d => ∃ b : Int, 2 ≤ b ∧ ds = [pL [(1, 1)], .int b] ∧ d = pL [(1, 1)]
theorem one_ok : SumOk [(1, 1)] := ⟨by simp [FallP, keys], by decide, by decide, by decide⟩
theorem ok_spread {f : Addr} {fd : FuncData} (F : Fun K "spread" "spread" s_spread f fd) (z_max : mg "max" = none) (z_reversed : mg "reversed" = none) (z_sorted : mg "sorted" = none) (c_checked_sum : CallOk P w K mg base "checked_sum" 4 R_checked_sum) (c_check_leader : CallOk P w K mg base "check_leader" 2 R_check_leader) (c_squared_powers : CallOk P w K mg base "squared_powers" 1 R_squared_powers) : FnOk P w K mg base CX0 5 f fd ["parts", "by"] (PSp K R_spread) := by
  refine fn_ok F sc_spread (by rintro ds d ⟨_, _, rfl, rfl⟩; rfl) ?_
  rintro ds d ⟨b, hb, rfl, rfl⟩ cdv A outer s H E hr
  refine dss_set 2 sc_spread.nd (m := .cl) (d := pL [(1, 1)]) (dm_call c_checked_sum hr (da_any (dm_arg 0) (da_nil)) (r_checked_sum one_ok)) ?_
  refine dss_of (ps_expr pw_E rfl) fun H0 ps σ H E l De ok => (dm_call c_check_leader hr (da_any (dm_arg 1) (da_nil)) (r_check_leader hb)) H0 ps σ H E _ fun v H1 s1 r1 => ?_
  refine (show DSs _ _ _ _ from ?_) H0 ps σ H1 (E.mono s1) l De (ok.step (Fr.of_same s1))
  refine dss_for (m := .cl) (ds := ([(1, 1)] : PP).map pD) (fun i env => ∃ a c, env = ([.arg (pL [(1, 1)]), .arg (.int b), .val (pL [(1, 1)]), a, c, .un, .un, .un], [])) PassesOwn.never rfl (di_list (by decide) (dm_val 2)) ⟨_, _, rfl⟩ ?_ ?_
  · rintro i d env hd ⟨a, c, rfl⟩
    obtain ⟨p, hp, rfl⟩ := List.mem_map.mp (List.mem_of_getElem? hd)
    obtain rfl : p = (1, 1) := by simpa using hp
    refine ⟨_, _, dg_pair 3 4 rfl sc_spread.nd, rfl, ?_⟩
    exact dss_if1 (dt_eq (dm_mod (dm_val 3) (dm_arg 1) (by omega)) (dm_int)) (fun hk => by have := of_decide_eq_true hk; rw [Int.emod_eq_of_lt (by decide) (by show 1 < b; omega)] at this; cases this) (fun _ => dss_nil ⟨_, _, rfl⟩)
  rintro env ⟨a, c, rfl⟩
  refine dss_set 5 sc_spread.nd (m := .cl) (d := .int 1) (dm_maxD (ns := [1]) rfl z_max (dm_lcMT D.int (as := [(1, 1)]) (enc := pD) (g := fun p => p.2) rfl sc_spread.nd (blk (N := N_spread) (sc := defScope s_spread) (own := [("_", 4), ("count", 7)]) (by decide +kernel)) (di_list (by decide) (dm_val 2)) (fun a ha s H C c fp => dg_pair 4 7 rfl sc_spread.nd) (fun a ha s H C c fp => dm_val 7) (by decide)) (fun z => by cases z) (fun _ => ⟨by simp, fun y hy => (by have h1 : y = 1 := (by simpa using hy); omega)⟩)) ?_
  refine dss_for (m := .cl) (ds := ([] : List Int).map D.int) (fun i env => i = 0 ∧ env = ([.arg (pL [(1, 1)]), .arg (.int b), .val (pL [(1, 1)]), a, c, .val (.int 1), .un, .un], [])) PassesOwn.never rfl (.is (di_rev (by decide) z_reversed (dm_call c_squared_powers hr (da_any (dm_arg 1) (da_any (dm_val 5) (da_nil))) ⟨b, 1, by omega, rfl, rfl⟩)) rfl) ⟨rfl, rfl⟩ (fun i d env hd _ => by cases hd) ?_
  rintro env ⟨_, rfl⟩
  exact dss_ret (dm_sortPR (apos := ⟨0, 0, 0, 0⟩) z_sorted (dm_val 2) (List.Perm.refl _) (by simp)) rfl
end
end KX
set_option Elab.async false
set_option linter.all false
set_option maxRecDepth 100000
set_option maxHeartbeats 4000000
namespace KX
open PySem PySem.Spec L2 DW MP
structure KindC (K : PySem.W.Frag) (mg : Str → Option Value) (cs : Nat → Addr) (CP : Addr) : Prop where
  g0 : mg "BadSum" = some (.ref (cs 0))
  g1 : mg "BadNumber" = some (.ref (cs 1))
  g2 : mg "NotSuch" = some (.ref (cs 2))
  g3 : mg "TooMany" = some (.ref (cs 3))
  gP : mg "PartsError" = some (.ref CP)
  ex : ∀ i, i < 4 → ExcC K (cs i)
  kit : ∀ i j, i < 4 → j < 4 → PySem.W.kitOne K (.ref (cs i)) (.ref (cs j)) = some (decide (i = j))
  kv : ∀ i, i < 4 → PySem.W.kitOne K (.ref (cs i)) (.type "ValueError") = some true
  exm : ∀ i, i < 4 → PySem.W.exmOne K (.ref (cs i)) (.ref CP) = some true
def kindsL (i : Nat) : List Bool := [decide (i = 0), decide (i = 1), decide (i = 2), decide (i = 3), true]
def N_law_kinds : List Str := ["_law_error", "_law_found"]
theorem sc_law_kinds : FnScope N_law_kinds ["_law_error"] (defScope s_law_kinds) := ⟨rfl, rfl, rfl, by decide +kernel, rfl, by decide +kernel, by decide +kernel⟩
section
variable {P : Program} {w : World} {K : PySem.W.Frag} {mg : Str → Option Value} {base : Heap} {cs : Nat → Addr}
theorem body_kinds {CP a f : Addr} {oe : Obj} {i : Nat} (KC : KindC K mg cs CP) (z_isinstance : mg "isinstance" = none) (z_ValueError : mg "ValueError" = none) (hi : i < 4) (hz : Zc (.ref (cs i)) none oe) (hf : ∃ vs, oe.data = .fields vs) {cdv : Value} {A : Around} {outer : List PySem.Env} {s : Shared} {H : Hp} {E : XK} :
    DSs (L2H.cxH CX0 P w K mg base N_law_kinds "_law_kinds" (defScope s_law_kinds) f cdv A outer s H E (a, oe)).nox (startE N_law_kinds [.opq a], []) (defBody s_law_kinds) ⟨fun _ => bL (kindsL i) = .non, fun d' => d' = bL (kindsL i), fun _ => False, fun _ => False⟩ := by
  have hp : (a, oe) ∈ (L2H.cxH CX0 P w K mg base N_law_kinds "_law_kinds" (defScope s_law_kinds) f cdv A outer s H E (a, oe)).nox.pn := List.mem_singleton.mpr rfl
  refine dss_set 1 sc_law_kinds.nd (m := .cl) (d := bL [decide (i = 0), decide (i = 1), decide (i = 2)]) (dm_lst (da_cons (dm_isE hp (KC.ex i hi) hz hf z_isinstance KC.g0 (KC.kit i 0 hi (by decide)) (dm_arg 0)) (da_cons (dm_isE hp (KC.ex i hi) hz hf z_isinstance KC.g1 (KC.kit i 1 hi (by decide)) (dm_arg 0)) (da_cons (dm_isE hp (KC.ex i hi) hz hf z_isinstance KC.g2 (KC.kit i 2 hi (by decide)) (dm_arg 0)) (da_nil)))) (by show 3 ≤ 100000; decide)) ?_
  exact dss_ret (dm_catT (enc := D.bl) (as := [decide (i = 0), decide (i = 1), decide (i = 2)]) (bs := [decide (i = 3), true]) (dm_val 1) (dm_lst (da_cons (dm_isE hp (KC.ex i hi) hz hf z_isinstance KC.g3 (KC.kit i 3 hi (by decide)) (dm_arg 0)) (da_cons (dm_isEB (n := "ValueError") hp (KC.ex i hi) hz hf z_isinstance z_ValueError (by decide +kernel) (KC.kv i hi) (dm_arg 0)) (da_nil))) (by show 2 ≤ 100000; decide)) (by show 3 + 2 ≤ 100000; decide)) rfl
end
section
variable {X : Cx} {cs : Nat → Addr}
theorem pe_kinds {CP a f : Addr} {fd : FuncData} {oe : Obj} {i j : Nat} {pn : List (Addr × Obj)} {p p2 pos : Pos} (F : Fun X.K "_law_kinds" "_law_kinds" s_law_kinds f fd) (hm : X.mg "_law_kinds" = some (.ref f)) (hb : Binds X.K fd ["_law_error"] []) (KC : KindC X.K X.mg cs CP) (z_isinstance : X.mg "isinstance" = none) (z_ValueError : X.mg "ValueError" = none) (hi : i < 4) (hz : Zc (.ref (cs i)) none oe) (hf : ∃ vs, oe.data = .fields vs) (hr : L2H.RoomH 1 (X.A.mark (some (.ref a))))
    (hN : X.N[j]? = some ("_law_error" : Str)) (hv : Vis X.env.scope "_law_error") (hg : Gl X "_law_kinds") (he : starEach [.Name "_law_error" p2] X.env = (false, eval (.Name "_law_error" p2) X.env) :: starEach [] X.env) :
    PE (X.suite a ((a, oe) :: pn)) (.Call (.Name "_law_kinds" p) [.Name "_law_error" p2] [] pos) (fun σ H Q => σ[j]? = some (some (.ref a)) ∧ ∀ v H', Same H H' → R X.K false (cl H H') v (bL (kindsL i)) → Q v H') := by
  refine ⟨fun pins s σ H Q I h => ?_⟩
  obtain ⟨hs, hq⟩ := h
  have ha : PA (X.suite a ((a, oe) :: pn)) [.Name "_law_error" p2] (tCons (tVar j) tNil) := pa_cons (pe_var hN hv) pa_nil he
  refine wpAny_Call_Name_kw (ld_glob I hg hm ?_)
  refine PySem.W.callWith_K (h₀ := X.base) I.ok.mod.kin F.kp (thn (ha.run pos pins s σ H (fun vs H1 => vs = [.ref a] ∧ H1 = H) I ⟨_, hs, rfl, rfl⟩) fun us s1 ⟨vs, H1, I1, r, e1, e2⟩ => ⟨I1.kIn, ?_⟩) he rfl
  subst e1 e2
  have P1 := I1.pin (a, oe) (List.mem_append_left _ (List.mem_cons_self ..))
  have hpin : L2H.PinOk (X.suite a ((a, oe) :: pn)).stack H1 s1 (a, oe) := ⟨P1.1, P1.2.1, fun hm => (List.mem_cons.mp (I1.stkSub a hm)).elim P1.2.2.1 P1.2.2.2.1, P1.2.2.2.2⟩
  have hl : us.length = 1 := r.length.symm
  have b := hb s1 us I1.kIn (by rw [List.append_nil]; exact hl)
  rw [List.append_nil] at b
  refine wpAny_call (codeAny_mono (run_pin (k := 0) (Q := Q) (E := fun _ _ _ => False) F sc_law_kinds hr hpin I1.env0 b r rfl fun cdv hr' => ?_) fun r s' hq' => ?_)
  · exact body_kinds KC z_isinstance z_ValueError hi hz hf H1 [] _ H1 (env_start (.cons (.opq a) .nil)) rfl _ ⟨(fun _ _ _ _ z => by cases z), (fun d v H' z sm r => by cases z; exact hq v H' sm r), (fun _ _ _ _ z => z.elim), (fun _ _ _ _ z => z.elim)⟩
  · cases r with
    | error e => exact False.elim hq'
    | ok fl =>
      cases fl with
      | ret u => exact I1.after hq'
      | next => exact False.elim hq'
      | brk => exact False.elim hq'
      | cont => exact False.elim hq'
theorem pe_callHeld {CX : CXT} {k i : Nat} {f : Addr} {fd : FuncData} {qs : List Str} {sp : Sp} {E : L2.St → XK} {x : Str} {p pos : Pos} {e : Expr} {es : List Expr} {t : TA} (F : FnOk X.prog X.w X.K X.mg X.base CX k f fd qs sp) (hr : Room k X.A) (hN : X.N[i]? = some x) (hv : Vis X.env.scope x) (hk : PySem.W.keepIn X.K (.ref f) = true) (hb : Binds X.K fd qs []) (hx : ∀ σ, PassesAt CX X σ (E σ)) (ha : PA X (e :: es) t)
    (he : starEach (e :: es) X.env = (false, eval e X.env) :: starEach es X.env) (hpl : (backTo pos (starEach es X.env)).any (·.1) = false) (hdb : (x == ("__debug__" : Str)) = false := by decide) (hcd : (x == ("__classdict__" : Str)) = false := by decide) :
    PE X (.Call (.Name x p) (e :: es) [] pos) (fun σ H Q => σ[i]? = some (some (.ref f)) ∧ t σ H fun vs H1 => sp vs H1 Q (E σ)) := by
  constructor
  rintro pins s σ H Q I ⟨hs, ht⟩
  refine wpAny_Call_Name_kw (thn ((pe_var (pos := p) hN hv hdb hcd).run pins s σ H (fun v H1 => v = .ref f ∧ H1 = H) I ⟨_, hs, rfl, rfl⟩) fun u s1 z => ?_)
  obtain ⟨v, H1, I1, r1, rfl, rfl⟩ := z
  obtain rfl : u = Value.ref f := r1
  exact PySem.W.callWith_K (h₀ := X.base) I.ok.mod.kin hk (thn (ha.run pos pins s1 σ _ _ I1 ht) fun us s2 ⟨vs, H2, I2, r, q⟩ => ⟨I2.kIn, run_fnS F hr hb (hx σ) I2 r q⟩) he hpl
end
end KX
set_option Elab.async false
set_option linter.all false
set_option maxRecDepth 100000
set_option maxHeartbeats 4000000
namespace KX
open PySem PySem.Spec L2 DW MP
section
variable {P : Program} {w : World} {K : PySem.W.Frag} {mg : Str → Option Value} {base : Heap} {cs : Nat → Addr}
def X_law_with_sum : List D → Nat → Prop := fun ds i => ∃ (door : Int) (x : D), BadS x ∧ ds = [.int door, x] ∧ i = 0
def N_law_with_sum : List Str := ["_law_door", "_law_parts"]
theorem sc_law_with_sum : FnScope N_law_with_sum ["_law_door", "_law_parts"] (defScope s_law_with_sum) := ⟨rfl, rfl, rfl, by decide +kernel, rfl, by decide +kernel, by decide +kernel⟩
theorem okx_law_with_sum {f : Addr} {fd : FuncData} (F : Fun K "_law_with_sum" "_law_with_sum" s_law_with_sum f fd) (x_whole_ : CallX P w K mg base cs "whole" 5 X_one) (x_often_ : CallX P w K mg base cs "often" 5 X_one) (x_turned_ : CallX P w K mg base cs "turned" 5 X_one) (x_is_own_ : CallX P w K mg base cs "is_own" 5 X_one) (x_spread_ : CallX P w K mg base cs "spread" 5 X_spread) (x_gathered_ : CallX P w K mg base cs "gathered" 5 X_gathered) (x_partner_ : CallX P w K mg base cs "partner" 6 X_partner) (x_folded_ : CallX P w K mg base cs "folded" 6 X_folded) (x_hooks_ : CallX P w K mg base cs "hooks" 5 X_hooks) : FnOk P w K mg base (L2N.CX P w) 7 f fd ["_law_door", "_law_parts"] (PSpR K cs X_law_with_sum) := by
  refine fn_okR F sc_law_with_sum (by rintro ds d ⟨_, _, _, rfl, rfl⟩; rfl) ?_
  rintro ds d ⟨door, x, h, rfl, rfl⟩ cdv A outer s H E hr
  refine drs_if1 (dt_lt (dm_arg 0) (dm_int)) (fun _ => drs_if1 (dt_lt (dm_arg 0) (dm_int)) (fun _ => drs_retR (dr_ite (dt_eq (dm_arg 0) (dm_int)) (fun _ => dr_call x_whole_ hr (da_any (dm_arg 1) (da_nil)) (x_one h)) (fun _ => dr_call x_often_ hr (da_any (dm_arg 1) (da_nil)) (x_one h)))) (fun _ => drs_retR (dr_ite (dt_eq (dm_arg 0) (dm_int)) (fun _ => dr_call x_turned_ hr (da_any (dm_arg 1) (da_nil)) (x_one h)) (fun _ => dr_call x_is_own_ hr (da_any (dm_arg 1) (da_nil)) (x_one h))))) (fun _ => ?_)
  refine drs_if1 (dt_lt (dm_arg 0) (dm_int)) (fun _ => drs_retR (dr_ite (dt_eq (dm_arg 0) (dm_int)) (fun _ => dr_call x_spread_ hr (da_any (dm_arg 1) (da_any (dm_int) (da_nil))) ⟨_, _, .inl ⟨h, rfl⟩, rfl⟩) (fun _ => dr_call x_gathered_ hr (da_any (dm_arg 1) (da_any (dm_non) (da_nil))) ⟨_, _, .inl ⟨h, rfl⟩, rfl⟩))) (fun _ => ?_)
  exact drs_retR (dr_ite (dt_eq (dm_arg 0) (dm_int)) (fun _ => dr_call x_partner_ hr (da_any (dm_arg 1) (da_nil)) ⟨_, .inl ⟨h, rfl⟩, rfl⟩) (fun _ => dr_ite (dt_eq (dm_arg 0) (dm_int)) (fun _ => dr_call x_folded_ hr (da_any (dm_arg 1) (da_nil)) ⟨_, .inl ⟨h, rfl⟩, rfl⟩) (fun _ => dr_call x_hooks_ hr (da_any (dm_arg 1) (da_nil)) ⟨_, .inl ⟨h, rfl⟩, rfl⟩)))
def X_law_with_number : List D → Nat → Prop := fun ds i => ∃ (door : Int) (x : D), (tame1 x = true ∧ numB 2 x = false) ∧ ds = [.int door, x] ∧ i = 1
def N_law_with_number : List Str := ["_law_door", "_law_by"]
theorem sc_law_with_number : FnScope N_law_with_number ["_law_door", "_law_by"] (defScope s_law_with_number) := ⟨rfl, rfl, rfl, by decide +kernel, rfl, by decide +kernel, by decide +kernel⟩
theorem six_ok {c : Int} (h : 0 < c) (h2 : ib c ≤ 1000) : SumOk [(6, c)] := ⟨by simp [FallP, keys], (fun p hp => by
  obtain rfl : p = (6, c) := by simpa using hp
  exact ⟨by show (0 : Int) < 6; decide, h⟩), (fun p hp => by
  obtain rfl : p = (6, c) := by simpa using hp
  exact ⟨by show ib 6 ≤ 1000; decide, h2⟩), by show 1 ≤ 40000; decide⟩
theorem okx_law_with_number {f : Addr} {fd : FuncData} (F : Fun K "_law_with_number" "_law_with_number" s_law_with_number f fd) (x_spread_ : CallX P w K mg base cs "spread" 5 X_spread) (x_gathered_ : CallX P w K mg base cs "gathered" 5 X_gathered) : FnOk P w K mg base (L2N.CX P w) 7 f fd ["_law_door", "_law_by"] (PSpR K cs X_law_with_number) := by
  refine fn_okR F sc_law_with_number (by rintro ds d ⟨_, _, _, rfl, rfl⟩; rfl) ?_
  rintro ds d ⟨door, x, ⟨h, h2⟩, rfl, rfl⟩ cdv A outer s H E hr
  exact drs_retR (dr_ite (dt_eq (dm_arg 0) (dm_int)) (fun _ => dr_call x_spread_ hr (da_any (dm_lst (da_cons (dm_pair (dm_int) (dm_int)) (da_nil)) (by show 1 ≤ 100000; decide)) (da_any (dm_arg 1) (da_nil))) ⟨_, _, .inr (.inl ⟨[(6, 7)], six_ok (by decide) (by decide), h, h2, rfl, rfl⟩), rfl⟩) (fun _ => dr_call x_gathered_ hr (da_any (dm_lst (da_cons (dm_pair (dm_int) (dm_pow (dm_int) (dm_int) ⟨by decide, by decide, by decide⟩)) (da_nil)) (by show 1 ≤ 100000; decide)) (da_any (dm_arg 1) (da_nil))) ⟨_, _, .inr (.inl ⟨[(6, 10 ^ Int.toNat 30)], six_ok (by decide) (by decide +kernel), h, h2, rfl, rfl⟩), rfl⟩))
def X_law_led : List D → Nat → Prop := fun ds i => ∃ (door : Int) (ps : PP) (b : Int), (SumOk ps ∧ 2 ≤ b ∧ ((door = 0 ∧ ∃ p ∈ ps, p.1 % b = 0) ∨ (door ≠ 0 ∧ ∃ p ∈ ps, b ≤ p.2))) ∧ ds = [.int door, .tup [pL ps, .int b]] ∧ i = 2
def N_law_led : List Str := ["_law_door", "_law_pair"]
theorem sc_law_led : FnScope N_law_led ["_law_door", "_law_pair"] (defScope s_law_led) := ⟨rfl, rfl, rfl, by decide +kernel, rfl, by decide +kernel, by decide +kernel⟩
theorem okx_law_led {f : Addr} {fd : FuncData} (F : Fun K "_law_led" "_law_led" s_law_led f fd) (x_spread_ : CallX P w K mg base cs "spread" 5 X_spread) (x_gathered_ : CallX P w K mg base cs "gathered" 5 X_gathered) : FnOk P w K mg base (L2N.CX P w) 7 f fd ["_law_door", "_law_pair"] (PSpR K cs X_law_led) := by
  refine fn_okR F sc_law_led (by rintro ds d ⟨_, _, _, _, rfl, rfl⟩; rfl) ?_
  rintro ds d ⟨door, ps, b, ⟨h, hb, h2⟩, rfl, rfl⟩ cdv A outer s H E hr
  refine drs_retR (dr_ite (dt_eq (dm_arg 0) (dm_int)) (fun hk => dr_call x_spread_ hr (da_any (dm_ixT (ds := [pL ps, .int b]) (dm_arg 1) (dm_int) rfl) (da_any (dm_ixT (ds := [pL ps, .int b]) (dm_arg 1) (dm_int) rfl) (da_nil))) ⟨_, _, .inr (.inr ⟨ps, b, h, hb, ?_, rfl, rfl, rfl⟩), rfl⟩) (fun hk => dr_call x_gathered_ hr (da_any (dm_ixT (ds := [pL ps, .int b]) (dm_arg 1) (dm_int) rfl) (da_any (dm_ixT (ds := [pL ps, .int b]) (dm_arg 1) (dm_int) rfl) (da_nil))) ⟨_, _, .inr (.inr ⟨ps, b, h, hb, ?_, rfl, rfl, rfl⟩), rfl⟩))
  · rcases h2 with ⟨_, h2⟩ | ⟨ne, _⟩
    · exact h2
    · exact absurd (of_decide_eq_true hk) ne
  · rcases h2 with ⟨e, _⟩ | ⟨_, h2⟩
    · exact absurd e (of_decide_eq_false hk)
    · exact h2
def X_law_others : List D → Nat → Prop := fun ds i => ∃ (door : Int) (x : D), ((door = 0 ∧ X_partner [x] i) ∨ (door = 1 ∧ X_folded [x] i) ∨ (door = 2 ∧ X_hooks [x] i)) ∧ ds = [.int door, x]
def N_law_others : List Str := ["_law_door", "_law_parts"]
theorem sc_law_others : FnScope N_law_others ["_law_door", "_law_parts"] (defScope s_law_others) := ⟨rfl, rfl, rfl, by decide +kernel, rfl, by decide +kernel, by decide +kernel⟩
theorem okx_law_others {f : Addr} {fd : FuncData} (F : Fun K "_law_others" "_law_others" s_law_others f fd) (x_partner_ : CallX P w K mg base cs "partner" 6 X_partner) (x_folded_ : CallX P w K mg base cs "folded" 6 X_folded) (x_hooks_ : CallX P w K mg base cs "hooks" 5 X_hooks) : FnOk P w K mg base (L2N.CX P w) 7 f fd ["_law_door", "_law_parts"] (PSpR K cs X_law_others) := by
  refine fn_okR F sc_law_others (by rintro ds d ⟨_, _, _, rfl⟩; rfl) ?_
  rintro ds d ⟨door, x, h, rfl⟩ cdv A outer s H E hr
  rcases h with ⟨rfl, h⟩ | ⟨rfl, h⟩ | ⟨rfl, h⟩
  · exact drs_retR (dr_ite (dt_eq (dm_arg 0) (dm_int)) (fun _ => dr_call x_partner_ hr (da_any (dm_arg 1) (da_nil)) h) (fun hk => absurd rfl (of_decide_eq_false hk)))
  · exact drs_retR (dr_ite (dt_eq (dm_arg 0) (dm_int)) (fun hk => absurd (of_decide_eq_true hk) (by decide)) (fun _ => dr_ite (dt_eq (dm_arg 0) (dm_int)) (fun _ => dr_call x_folded_ hr (da_any (dm_arg 1) (da_nil)) h) (fun hk => absurd rfl (of_decide_eq_false hk))))
  · exact drs_retR (dr_ite (dt_eq (dm_arg 0) (dm_int)) (fun hk => absurd (of_decide_eq_true hk) (by decide)) (fun _ => dr_ite (dt_eq (dm_arg 0) (dm_int)) (fun hk => absurd (of_decide_eq_true hk) (by decide)) (fun _ => dr_call x_hooks_ hr (da_any (dm_arg 1) (da_nil)) h)))
def AskR (A1 A2 A3 A4 : Addr) : Addr → (List D → Nat → Prop) → Prop := fun fa Rel => (fa = A1 ∧ Rel = X_law_with_sum) ∨ (fa = A2 ∧ Rel = X_law_with_number) ∨ (fa = A3 ∧ Rel = X_law_led) ∨ (fa = A4 ∧ Rel = X_law_others)
def R_law_told (A1 A2 A3 A4 : Addr) : List D → D → Prop := fun ds d => ∃ (fa : Addr) (Rel : List D → Nat → Prop) (door thing : D) (i : Nat), (AskR A1 A2 A3 A4 fa Rel ∧ i < 4 ∧ Rel [door, thing] i) ∧ ds = [.opq fa, door, thing] ∧ d = bL (kindsL i)
theorem held_of {x : Str} {k : Nat} {Rel : List D → Nat → Prop} {A1 : Addr} (c : CallX P w K mg base cs x k Rel) (g : mg x = some (.ref A1)) : ∃ (fd : FuncData) (ps : List Str), PySem.W.keepIn K (.ref A1) = true ∧ Binds K fd ps [] ∧ FnOk P w K mg base (L2N.CX P w) k A1 fd ps (PSpR K cs Rel) := by
  obtain ⟨f, fd, ps, hm, kp, hb, F⟩ := c
  obtain rfl : f = A1 := Value.ref.inj (Option.some.inj (hm.symm.trans g))
  exact ⟨fd, ps, kp, hb, F⟩
theorem takesN {X : Cx} : L2N.Takes X (fun _ _ _ _ => False) := fun _ _ x => by
  obtain ⟨_, _, _, _, _, _, _, _, _, _, _, _, _, _, _, _, z⟩ := x
  exact z.elim
def N_law_told : List Str := ["_law_ask", "_law_door", "_law_thing", "_law_error"]
theorem sc_law_told : FnScope N_law_told ["_law_ask", "_law_door", "_law_thing"] (defScope s_law_told) := ⟨rfl, rfl, rfl, by decide +kernel, rfl, by decide +kernel, by decide +kernel⟩
theorem ok_law_told {f fk A1 A2 A3 A4 CP : Addr} {fd fdk : FuncData} (F : Fun K "_law_told" "_law_told" s_law_told f fd) (Fk : Fun K "_law_kinds" "_law_kinds" s_law_kinds fk fdk) (mk_ : mg "_law_kinds" = some (.ref fk)) (bk : Binds K fdk ["_law_error"] []) (KC : KindC K mg cs CP) (z_isinstance : mg "isinstance" = none) (z_ValueError : mg "ValueError" = none) (gA1 : mg "_law_with_sum" = some (.ref A1)) (gA2 : mg "_law_with_number" = some (.ref A2)) (gA3 : mg "_law_led" = some (.ref A3)) (gA4 : mg "_law_others" = some (.ref A4))
    (x_law_with_sum_ : CallX P w K mg base cs "_law_with_sum" 7 X_law_with_sum) (x_law_with_number_ : CallX P w K mg base cs "_law_with_number" 7 X_law_with_number) (x_law_led_ : CallX P w K mg base cs "_law_led" 7 X_law_led) (x_law_others_ : CallX P w K mg base cs "_law_others" 7 X_law_others) : FnOk P w K mg base CX0 8 f fd ["_law_ask", "_law_door", "_law_thing"] (PSp K (R_law_told A1 A2 A3 A4)) := by
  refine fn_ok F sc_law_told (by rintro ds d ⟨_, _, _, _, _, _, rfl, rfl⟩; rfl) ?_
  rintro ds d ⟨fa, Rel, door, thing, i, ⟨ha, hi, hrel⟩, rfl, rfl⟩ cdv A outer ss Hs E hr
  obtain ⟨fda, qs, kpa, ba, Fa⟩ : ∃ (fd : FuncData) (ps : List Str), PySem.W.keepIn K (.ref fa) = true ∧ Binds K fd ps [] ∧ FnOk P w K mg base (L2N.CX P w) 7 fa fd ps (PSpR K cs Rel) := by
    rcases ha with ⟨rfl, rfl⟩ | ⟨rfl, rfl⟩ | ⟨rfl, rfl⟩ | ⟨rfl, rfl⟩
    · exact held_of x_law_with_sum_ gA1
    · exact held_of x_law_with_number_ gA2
    · exact held_of x_law_led_ gA3
    · exact held_of x_law_others_ gA4
  intro H0 ps σ H1 En l De ok
  refine (pss_cons (L2N.ps_try_as (X := (cxOf CX0 P w K mg base N_law_told "_law_told" (defScope s_law_told) f cdv A outer ss Hs E).nox) (i := 3) (x := "PartsError") (n := "_law_error") (c := .ref CP) (Wout := fun _ _ _ _ => False)
    (tb := fun W D σ H => ∀ pn xe, L2N.Takes (Cx.tr (cxOf CX0 P w K mg base N_law_told "_law_told" (defScope s_law_told) f cdv A outer ss Hs E).nox pn xe) W → wSs (Cx.tr (cxOf CX0 P w K mg base N_law_told "_law_told" (defScope s_law_told) f cdv A outer ss Hs E).nox pn xe) _ D σ H)
    (ts := fun a cls d D σ H => ∀ oe pn, L2N.Zn cls d oe → (∃ vs, oe.data = .fields vs) → wSs (Cx.suite (cxOf CX0 P w K mg base N_law_told "_law_told" (defScope s_law_told) f cdv A outer ss Hs E).nox a ((a, oe) :: pn)) _ D σ H)
    rfl rfl sc_law_told.nd rfl rfl ⟨rfl, by decide, .inl KC.gP⟩ takesN (fun W pn xe tk _ => ⟨fun pins s σ H D I h => (h pn xe tk).run pins s I⟩) (fun a oe cls d pn hz hf => ⟨fun pins s σ H D I h => (h oe pn hz hf).run pins s I⟩)) pw_Ss).w ?_
  intro pn xe tk
  have h0 := En.sl 0 (.arg (.opq fa)) rfl
  obtain ⟨v0, e0, r0⟩ := h0
  obtain rfl := R.opqI r0
  refine (pss_cons (ps_expr (pe_callHeld (i := 0) Fa (hr.mono (by decide)) rfl (.inl rfl) kpa ba (fun σ => L2N.passAt tk σ) pw_A rfl rfl) rfl) pw_Ss).w ⟨e0, ?_⟩
  refine (da_any (X := Cx.tr (cxOf CX0 P w K mg base N_law_told "_law_told" (defScope s_law_told) f cdv A outer ss Hs E).nox pn xe) (env := (startE N_law_told [.opq fa, door, thing], [])) (dm_arg 1) (da_any (dm_arg 2) (da_nil))) H0 ps σ H1 En _ fun vs H2 s1 r1 => ⟨[door, thing], i, r1, hrel, fun H' sm => ?_⟩
  have E2 := (En.mono s1).mono sm
  refine ⟨true, KC.exm i hi, fun _ a na oe pn2 hz hf => ⟨fun pins s' I => ?_⟩, fun z => by cases z⟩
  have len := I.len
  have r1 := L2H.roomH_of (hr.mono (show 1 ≤ 7 by decide))
  have hs3 : (σ.set 3 (some (.ref a)))[3]? = some (some (V.ref a)) := by
    rw [List.getElem?_set]
    have : 3 < σ.length := by
      rw [List.length_set] at len
      rw [len]
      show 3 < N_law_told.length
      decide
    simp [this]
  refine ((pss_cons (ps_ret (pe_kinds (X := (cxOf CX0 P w K mg base N_law_told "_law_told" (defScope s_law_told) f cdv A outer ss Hs E).nox) (j := 3) Fk mk_ bk KC z_isinstance z_ValueError hi hz.zc hf ⟨r1.dp, r1.un⟩ rfl (.inl rfl) rfl rfl)) pw_Ss).w ⟨hs3, fun v H'' s2 r2 => ?_⟩).run pins s' I
  exact ok.rt _ v H'' rfl (E2.same.trans s2) (R.mono (er_le _ _) id (E2.made s2 r2))
end
end KX
set_option Elab.async false
set_option linter.all false
set_option maxRecDepth 100000
set_option maxHeartbeats 8000000
namespace KX
open PySem PySem.Spec L2 DW MP
theorem bad_lst {ds : List D} (h1 : ds.all tame2 = true) (h2 : ds.all pairB = false) (hl : ds.length ≤ 90000) : BadS (.lst ds) := .inr ⟨rfl, fun es e => by
  cases e
  exact ⟨fun x hx => List.all_eq_true.mp h1 x hx, h2, hl⟩⟩
theorem bad_non {d : D} (h1 : tame1 d = true) (h2 : ∀ ds, d ≠ .lst ds) : BadS d := .inr ⟨h1, fun es e => absurd e (h2 es)⟩
def badL (far : Int) : List D := ([.non, .tup [], .tup [.tup [.int 1, .int 1]], .str "1", .dic [], .int 5, .lst [.non], .lst [.int 1], .lst [.tup [.int 1]], .lst [.tup [.int 1, .int 1, .int 1]], .lst [.lst [.int 1, .int 1]], .lst [.tup [.int 0, .int 1]], .lst [.tup [.int 1, .int 0]]] ++ [.lst [.tup [.int (-1 - far), .int 1]]]) ++ [.lst [.tup [.int 1, .int (-1 - far)]], .lst [.tup [.bl true, .int 1]], .lst [.tup [.int 1, .bl true]], .lst [.tup [.str "1", .int 1]], .lst [.tup [.int 1, .non]], .lst [.tup [.int 1, .int 1], .tup [.int 2, .int 1]], .lst [.tup [.int 3, .int 1], .tup [.int 3, .int 2]]]
theorem bad_all {far : Int} (h : 0 ≤ far) : ∀ x ∈ badL far, BadS x := by
  have n1 : decide ((1 : Int) ≤ -1 - far) = false := decide_eq_false (by omega)
  intro x hx
  unfold badL at hx
  simp only [List.mem_append, List.mem_cons, List.not_mem_nil, or_false] at hx
  rcases hx with ((rfl | rfl | rfl | rfl | rfl | rfl | rfl | rfl | rfl | rfl | rfl | rfl | rfl) | rfl) | (rfl | rfl | rfl | rfl | rfl | rfl | rfl)
  · exact bad_non rfl (fun _ z => by cases z)
  · exact bad_non rfl (fun _ z => by cases z)
  · exact bad_non rfl (fun _ z => by cases z)
  · exact bad_non rfl (fun _ z => by cases z)
  · exact bad_non rfl (fun _ z => by cases z)
  · exact bad_non rfl (fun _ z => by cases z)
  · exact bad_lst rfl rfl (by show 1 ≤ 90000; decide)
  · exact bad_lst rfl rfl (by show 1 ≤ 90000; decide)
  · exact bad_lst rfl rfl (by show 1 ≤ 90000; decide)
  · exact bad_lst rfl rfl (by show 1 ≤ 90000; decide)
  · exact bad_lst rfl rfl (by show 1 ≤ 90000; decide)
  · exact bad_lst rfl rfl (by show 1 ≤ 90000; decide)
  · exact bad_lst rfl rfl (by show 1 ≤ 90000; decide)
  · exact bad_lst rfl (by show ((decide ((1 : Int) ≤ -1 - far) && _) && _) = false; rw [n1]; rfl) (by show 1 ≤ 90000; decide)
  · exact bad_lst rfl (by simp only [List.all_cons, List.all_nil, pairB, numB, n1]; rfl) (by show 1 ≤ 90000; decide)
  · exact bad_lst rfl rfl (by show 1 ≤ 90000; decide)
  · exact bad_lst rfl rfl (by show 1 ≤ 90000; decide)
  · exact bad_lst rfl rfl (by show 1 ≤ 90000; decide)
  · exact bad_lst rfl rfl (by show 1 ≤ 90000; decide)
  · exact .inl ⟨[(1, 1), (2, 1)], by decide, rfl, by decide⟩
  · exact .inl ⟨[(3, 1), (3, 2)], by decide, rfl, by decide⟩
def strangeL : List D := [.non, .tup [.int 1, .int 0], .lst [.int 1, .int 1], .tup [.int 0, .int 1], .tup [.int 1, .bl false], .tup [.str "1", .int 1], .tup [.int 1, .int 1, .int 1]]
theorem strange_ok : ∀ x ∈ strangeL, tame2 x = true ∧ pairB x = false := by
  intro x hx
  simp only [strangeL, List.mem_cons, List.not_mem_nil, or_false] at hx
  rcases hx with rfl | rfl | rfl | rfl | rfl | rfl | rfl <;> exact ⟨rfl, rfl⟩
theorem bad_cut {as bs : PP} {x : D} (hx : tame2 x = true ∧ pairB x = false) (hl : as.length + bs.length ≤ 200) : BadS (.lst ((as.map pD ++ [x]) ++ bs.map pD)) := by
  refine bad_lst ?_ ?_ (by simp only [List.length_append, List.length_map, List.length_singleton]; omega)
  · rw [List.all_eq_true]
    intro y hy
    rcases List.mem_append.mp hy with hy | hy
    · rcases List.mem_append.mp hy with hy | hy
      · obtain ⟨p, _, rfl⟩ := List.mem_map.mp hy; rfl
      · obtain rfl : y = x := by simpa using hy
        exact hx.1
    · obtain ⟨p, _, rfl⟩ := List.mem_map.mp hy; rfl
  · rw [List.all_append, List.all_append]
    have : [x].all pairB = false := by show (pairB x && true) = false; rw [hx.2]; rfl
    rw [this, Bool.and_false, Bool.false_and]
def rgN (l : Int) : Nat := if l = 0 then 0 else ((l - 1) / (1 + l / 6) + 1).toNat
theorem rg_ok : ∀ l < 70, RgC 0 ((l : Nat) : Int) (1 + ((l : Nat) : Int) / 6) (rgN ((l : Nat) : Int)) ∧ rgN ((l : Nat) : Int) ≤ 100 := by
  unfold RgC
  decide +kernel
theorem sumV_of {ps : PP} (f : FallP ps) (h : ∀ p ∈ ps, (0 < p.1 ∧ 0 < p.2) ∧ p.1 < 2 ^ 200 ∧ p.2 < 2 ^ 200) (hl : ps.length ≤ 128) : SumV ps := by
  refine ⟨f, fun p hp => (h p hp).1, ?_, by omega⟩
  have e : (2 ^ 200 * 2 ^ 200) * 128 < BG := by decide +kernel
  have t : ∀ p ∈ ps, p.1 * p.2 ≤ 2 ^ 200 * 2 ^ 200 := fun p hp => by
    obtain ⟨⟨p1, p2⟩, t1, t2⟩ := h p hp
    generalize (2 : Int) ^ 200 = M at *
    exact Int.mul_le_mul (by omega) (by omega) (by omega) (by omega)
  have h1 := sum_le t
  have hM : (0 : Int) ≤ 2 ^ 200 * 2 ^ 200 := by decide +kernel
  generalize (2 : Int) ^ 200 * 2 ^ 200 = M at *
  have h3 : (ps.length : Int) * M ≤ 128 * M := Int.mul_le_mul_of_nonneg_right (by omega) hM
  omega
theorem small_v {ps : PP} {far : Int} (hf : 0 ≤ far ∧ far < p20) (f : FallP ps) (h : ∀ p ∈ ps, (0 < p.1 ∧ 0 < p.2) ∧ p.1 ≤ 2 * far + 3000 ∧ p.2 ≤ 2 * far + 3000) (hl : ps.length ≤ 128) : SumV ps := by
  have e : 2 * p20 + 3000 < 2 ^ 200 := by decide +kernel
  refine sumV_of f (fun p hp => ?_) hl
  obtain ⟨h1, h2, h3⟩ := h p hp
  generalize (2 : Int) ^ 200 = M at *
  exact ⟨h1, by omega, by omega⟩
theorem col_one (n c : Int) : colP [(n, c)] = [(c, n)] := by
  show [((0 : Int) + c, n - 0)] = _
  rw [Int.zero_add, Int.sub_zero]
section
variable {P : Program} {w : World} {K : PySem.W.Frag} {mg : Str → Option Value} {base : Heap} {cs : Nat → Addr}
def R_law_refused (A1 A2 A3 A4 : Addr) : List D → D → Prop := fun ds d => ∃ (fa : Addr) (Rel : List D → Nat → Prop) (doors : List Int) (things : List D) (i : Nat), (AskR A1 A2 A3 A4 fa Rel ∧ i < 4 ∧ (∀ door ∈ doors, ∀ thing ∈ things, Rel [.int door, thing] i) ∧ things.length ≤ 1000) ∧ ds = [.opq fa, iL doors, .lst things, bL (kindsL i)] ∧ d = .bl true
def N_law_refused : List Str := ["_law_ask", "_law_doors", "_law_things", "_law_due", "_law_door", "_law_thing"]
theorem sc_law_refused : FnScope N_law_refused ["_law_ask", "_law_doors", "_law_things", "_law_due"] (defScope s_law_refused) := ⟨rfl, rfl, rfl, by decide +kernel, rfl, by decide +kernel, by decide +kernel⟩
theorem ok_law_refused {f A1 A2 A3 A4 : Addr} {fd : FuncData} (F : Fun K "_law_refused" "_law_refused" s_law_refused f fd) (z_all : mg "all" = none) (c_law_told : CallOk P w K mg base "_law_told" 8 (R_law_told A1 A2 A3 A4)) : FnOk P w K mg base CX0 9 f fd ["_law_ask", "_law_doors", "_law_things", "_law_due"] (PSp K (R_law_refused A1 A2 A3 A4)) := by
  refine fn_ok F sc_law_refused (by rintro ds d ⟨_, _, _, _, _, _, rfl, rfl⟩; rfl) ?_
  rintro ds d ⟨fa, Rel, doors, things, i, ⟨ha, hi, hR, hl⟩, rfl, rfl⟩ cdv A outer s H E hr
  refine dss_for (m := .ar) (ds := doors.map D.int) (fun _ env => ∃ a, env = ([.arg (.opq fa), .arg (iL doors), .arg (.lst things), .arg (bL (kindsL i)), a, .un], [])) PassesOwn.never rfl (di_list (by decide) (dm_arg 1)) ⟨_, rfl⟩ ?_ ?_
  · rintro j d env hd ⟨a, rfl⟩
    obtain ⟨door, hdo, rfl⟩ := List.mem_map.mp (List.mem_of_getElem? hd)
    refine ⟨_, _, dg_name 4 sc_law_refused.nd, rfl, ?_⟩
    refine dss_if1 (k := !((things.map fun _ => true).all id)) (dt_not (dt_val (dm_all rfl z_all (dm_lcMT D.bl (as := things) (enc := fun d => d) (g := fun _ => true) rfl sc_law_refused.nd (blk (N := N_law_refused) (sc := defScope s_law_refused) (own := [("_law_thing", 5)]) (by decide +kernel)) (.is (di_list (by decide) (dm_arg 2)) (List.map_id' _).symm) (fun a ha s H C c fp => dg_name 5 sc_law_refused.nd) (fun thing ht s H C c fp => .is (dm_eqT (enc := bL) (x := kindsL i) (y := kindsL i) eqv_bL cmp_bL hr.units (dm_call c_law_told hr (da_any (dm_arg 0) (da_any (dm_arg 4) (da_any (dm_arg 5) (da_nil)))) ⟨fa, Rel, .int door, thing, i, ⟨ha, hi, hR door hdo thing ht⟩, rfl, rfl⟩) (dm_arg 3)) (bl_eq (decide_eq_true rfl))) (by omega))))) (fun hk => by rw [all_true fun _ _ => rfl] at hk; cases hk) (fun _ => dss_nil ⟨_, rfl⟩)
  rintro env ⟨a, rfl⟩
  exact dss_ret (dm_bl) rfl
def manyL : List PP := [[(2000, 600), (1400, 800), (600, 600)], [(1401, 600), (1001, 401), (600, 400)], [(1001, 1001)]]
def manyB (ps : PP) : Bool := decide (colP ps = ps) && (decide (midF 0 ps ≠ []) && decide (1000 < ((midF 0 ps).getLastD (0, 0, 0)).2.2))
theorem many_ok {far : Int} (hf : 0 ≤ far ∧ far < p20) : ∀ ps ∈ manyL ++ [[(1001 + far, 1001 + far)]], SumV ps ∧ colP ps = ps ∧ midF 0 ps ≠ [] ∧ 1000 < ((midF 0 ps).getLastD (0, 0, 0)).2.2 := by
  intro ps hps
  rcases List.mem_append.mp hps with h | h
  · have hb : ∀ ps ∈ manyL, manyB ps = true := by decide +kernel
    have b := hb ps h
    unfold manyB at b
    rw [Bool.and_eq_true, Bool.and_eq_true, decide_eq_true_eq, decide_eq_true_eq, decide_eq_true_eq] at b
    have g : ∀ ps ∈ manyL, (keys ps).Pairwise (· > ·) ∧ (∀ p ∈ ps, (0 < p.1 ∧ 0 < p.2) ∧ p.1 ≤ 3000 ∧ p.2 ≤ 3000) ∧ ps.length ≤ 128 := by decide +kernel
    obtain ⟨g1, g2, g3⟩ := g ps h
    exact ⟨small_v hf g1 (fun p hp => by have := g2 p hp; omega) g3, b.1, b.2.1, b.2.2⟩
  · obtain rfl : ps = [(1001 + far, 1001 + far)] := by simpa using h
    have m : midF 0 [(1001 + far, 1001 + far)] = [(1001 + far, 0, 1001 + far)] := by
      have e : min ((0 : Int) + (1001 + far)) (1001 + far) = 1001 + far := by omega
      rw [midF, e, if_pos (by omega), midF]
    refine ⟨small_v hf (by simp [FallP, keys]) (fun p hp => ?_) (by show 1 ≤ 128; decide), col_one _ _, by rw [m]; simp, by rw [m]; show 1000 < 1001 + far; omega⟩
    obtain rfl : p = (1001 + far, 1001 + far) := by simpa using hp
    exact ⟨⟨by show 0 < 1001 + far; omega, by show 0 < 1001 + far; omega⟩, by show 1001 + far ≤ _; omega, by show 1001 + far ≤ _; omega⟩
def hookA (ps : PP) : Bool := decide (colP ps = ps) && ((midF 0 ps).all (fun t => decide (t.2.2 ≤ 1000)) && decide ((hookP ps).length = 1000))
theorem hook_ok : hookA [(1000, 1000)] = true ∧ hookA [(1400, 600), (1000, 400), (600, 400)] = true := by decide +kernel
theorem hook_of1 {ps : PP} (h : hookA ps = true) (v : SumV ps) : HoOk ps ∧ (hookP ps).length = 1000 := by
  unfold hookA at h
  rw [Bool.and_eq_true, Bool.and_eq_true, decide_eq_true_eq, decide_eq_true_eq, List.all_eq_true] at h
  exact ⟨⟨v, h.1, fun t ht => of_decide_eq_true (h.2.1 t ht)⟩, h.2.2⟩
def R_law_many_right : List D → D → Prop := fun ds d => ∃ far : Int, (0 ≤ far ∧ far < p20) ∧ ds = [.int far, bL (kindsL 3)] ∧ d = .bl true
def N_law_many_right : List Str := ["_law_far", "_law_due", "_law_many"]
theorem sc_law_many_right : FnScope N_law_many_right ["_law_far", "_law_due"] (defScope s_law_many_right) := ⟨rfl, rfl, rfl, by decide +kernel, rfl, by decide +kernel, by decide +kernel⟩
theorem ok_law_many_right {f A1 A2 A3 A4 : Addr} {fd : FuncData} (F : Fun K "_law_many_right" "_law_many_right" s_law_many_right f fd) (z_len : mg "len" = none) (gA4 : mg "_law_others" = some (.ref A4)) (c_law_refused : CallOk P w K mg base "_law_refused" 9 (R_law_refused A1 A2 A3 A4)) (c_hooks : CallOk P w K mg base "hooks" 5 R_hooks) : FnOk P w K mg base CX0 10 f fd ["_law_far", "_law_due"] (PSp K R_law_many_right) := by
  refine fn_ok F sc_law_many_right (by rintro ds d ⟨_, _, rfl, rfl⟩; rfl) ?_
  rintro ds d ⟨far, hf, rfl, rfl⟩ cdv A outer s H E hr
  have mo := many_ok hf
  refine dss_set 2 sc_law_many_right.nd (m := .cl) (d := .lst (manyL.map pL)) (dm_lst (da_cons (dm_lst (da_cons (dm_tup (da_cons (dm_int) (da_cons (dm_int) (da_nil))) (by show 2 ≤ 100000; decide)) (da_cons (dm_tup (da_cons (dm_int) (da_cons (dm_int) (da_nil))) (by show 2 ≤ 100000; decide)) (da_cons (dm_tup (da_cons (dm_int) (da_cons (dm_int) (da_nil))) (by show 2 ≤ 100000; decide)) (da_nil)))) (by show 3 ≤ 100000; decide)) (da_cons (dm_lst (da_cons (dm_tup (da_cons (dm_int) (da_cons (dm_int) (da_nil))) (by show 2 ≤ 100000; decide)) (da_cons (dm_tup (da_cons (dm_int) (da_cons (dm_int) (da_nil))) (by show 2 ≤ 100000; decide)) (da_cons (dm_tup (da_cons (dm_int) (da_cons (dm_int) (da_nil))) (by show 2 ≤ 100000; decide)) (da_nil)))) (by show 3 ≤ 100000; decide)) (da_cons (dm_lst (da_cons (dm_tup (da_cons (dm_int) (da_cons (dm_int) (da_nil))) (by show 2 ≤ 100000; decide)) (da_nil)) (by show 1 ≤ 100000; decide)) (da_nil)))) (by show 3 ≤ 100000; decide)) ?_
  refine dss_if1 (k := !true) (dt_not (dt_val (dm_call c_law_refused hr (da_any (dm_fn gA4) (da_any (dm_lst (da_cons (dm_int) (da_nil)) (by show 1 ≤ 100000; decide)) (da_any (dm_catT (enc := pL) (as := manyL) (bs := [[(1001 + far, 1001 + far)]]) (dm_val 2) (dm_lst (da_cons (dm_lst (da_cons (dm_tup (da_cons (dm_add (dm_int) (dm_arg 0)) (da_cons (dm_add (dm_int) (dm_arg 0)) (da_nil))) (by show 2 ≤ 100000; decide)) (da_nil)) (by show 1 ≤ 100000; decide)) (da_nil)) (by show 1 ≤ 100000; decide)) (by show 3 + 1 ≤ 100000; decide)) (da_any (dm_arg 1) (da_nil))))) ⟨A4, X_law_others, [2], (manyL ++ [[(1001 + far, 1001 + far)]]).map pL, 3, ⟨.inr (.inr (.inr ⟨rfl, rfl⟩)), by decide, fun door hdo thing ht => ?_, by show 4 ≤ 1000; decide⟩, rfl, rfl⟩))) (fun hk => by cases hk) (fun _ => ?_)
  · obtain rfl : door = 2 := by simpa using hdo
    obtain ⟨ps, hps, rfl⟩ := List.mem_map.mp ht
    obtain ⟨v, h1, h2, h3⟩ := mo ps hps
    exact ⟨2, _, .inr (.inr ⟨rfl, _, .inr (.inr ⟨ps, v, h1, h2, h3, rfl, rfl⟩), rfl⟩), rfl⟩
  have v1 : SumV [(1000, 1000)] := small_v hf (by simp [FallP, keys]) (by
    have g : ∀ p ∈ ([(1000, 1000)] : PP), (0 < p.1 ∧ 0 < p.2) ∧ p.1 ≤ 3000 ∧ p.2 ≤ 3000 := by decide
    intro p hp; have := g p hp; omega) (by decide)
  have v2 : SumV [(1400, 600), (1000, 400), (600, 400)] := small_v hf (by simp [FallP, keys]) (by
    have g : ∀ p ∈ ([(1400, 600), (1000, 400), (600, 400)] : PP), (0 < p.1 ∧ 0 < p.2) ∧ p.1 ≤ 3000 ∧ p.2 ≤ 3000 := by decide
    intro p hp; have := g p hp; omega) (by decide)
  obtain ⟨o1, l1⟩ := hook_of1 hook_ok.1 v1
  obtain ⟨o2, l2⟩ := hook_of1 hook_ok.2 v2
  exact dss_ret (.is (dm_and (dm_eq (dm_lenT' (enc := pD) (as := hookP [(1000, 1000)]) z_len (dm_call c_hooks hr (da_any (dm_lst (da_cons (dm_tup (da_cons (dm_int) (da_cons (dm_int) (da_nil))) (by show 2 ≤ 100000; decide)) (da_nil)) (by show 1 ≤ 100000; decide)) (da_nil)) (r_hooks o1))) (dm_int)) (fun _ => dm_one (dm_eq (dm_lenT' (enc := pD) (as := hookP [(1400, 600), (1000, 400), (600, 400)]) z_len (dm_call c_hooks hr (da_any (dm_lst (da_cons (dm_tup (da_cons (dm_int) (da_cons (dm_int) (da_nil))) (by show 2 ≤ 100000; decide)) (da_cons (dm_tup (da_cons (dm_int) (da_cons (dm_int) (da_nil))) (by show 2 ≤ 100000; decide)) (da_cons (dm_tup (da_cons (dm_int) (da_cons (dm_int) (da_nil))) (by show 2 ≤ 100000; decide)) (da_nil)))) (by show 3 ≤ 100000; decide)) (da_nil)) (r_hooks o2))) (dm_int)))) (bl_eq (by rw [l1, l2]; rfl))) rfl
end
end KX
set_option Elab.async false
set_option linter.all false
set_option maxRecDepth 100000
set_option maxHeartbeats 8000000
namespace KX
open PySem PySem.Spec L2 DW MP
theorem fall1 (p : Int × Int) : FallP [p] := List.pairwise_singleton _ _
theorem fall2 {p q : Int × Int} (h : q.1 < p.1) : FallP [p, q] := by
  unfold FallP keys
  exact List.pairwise_cons.mpr ⟨fun x hx => by
    obtain rfl : x = q.1 := by simpa using hx
    exact h, List.pairwise_singleton _ _⟩
theorem fall3 {p q r : Int × Int} (h : q.1 < p.1) (h2 : r.1 < q.1) : FallP [p, q, r] := by
  unfold FallP keys
  refine List.pairwise_cons.mpr ⟨fun x hx => ?_, fall2 h2⟩
  have hx' : x = q.1 ∨ x = r.1 := by simpa using hx
  rcases hx' with rfl | rfl
  · exact h
  · show r.1 < p.1; omega
def okP (far : Int) (p : Int × Int) : Prop := (0 < p.1 ∧ 0 < p.2) ∧ p.1 ≤ 2 * far + 3000 ∧ p.2 ≤ 2 * far + 3000
theorem okp {far a c : Int} (h1 : 0 < a) (h2 : 0 < c) (h3 : a ≤ 2 * far + 3000) (h4 : c ≤ 2 * far + 3000) : okP far (a, c) := ⟨⟨h1, h2⟩, h3, h4⟩
theorem sv1 {far : Int} (hf : 0 ≤ far ∧ far < p20) {p : Int × Int} (h : okP far p) : SumV [p] := small_v hf (fall1 p) (fun x hx => by
  obtain rfl : x = p := by simpa using hx
  exact h) (by show 1 ≤ 128; decide)
theorem sv2 {far : Int} (hf : 0 ≤ far ∧ far < p20) {p q : Int × Int} (h : okP far p) (h2 : okP far q) (l : q.1 < p.1) : SumV [p, q] := small_v hf (fall2 l) (fun x hx => by
  have hx' : x = p ∨ x = q := by simpa using hx
  rcases hx' with rfl | rfl
  · exact h
  · exact h2) (by show 2 ≤ 128; decide)
theorem sv3 {far : Int} (hf : 0 ≤ far ∧ far < p20) {p q r : Int × Int} (h : okP far p) (h2 : okP far q) (h3 : okP far r) (l : q.1 < p.1) (l2 : r.1 < q.1) : SumV [p, q, r] := small_v hf (fall3 l l2) (fun x hx => by
  have hx' : x = p ∨ x = q ∨ x = r := by simpa using hx
  rcases hx' with rfl | rfl | rfl
  · exact h
  · exact h2
  · exact h3) (by show 3 ≤ 128; decide)
section
variable {far : Int}
theorem led0_ok (hf : 0 ≤ far ∧ far < p20) : ∀ x ∈ ([.tup [.lst [.tup [.int 6, .int 1]], .int 2], .tup [.lst [.tup [.int 7, .int 1], .tup [.int 5, .int 2], .tup [.int 3, .int 1]], .int 3], .tup [.lst [.tup [.int (2 + far), .int 1], .tup [.int 1, .int 4]], .int (2 + far)], .tup [.lst [.tup [.int (4 + 2 * far), .int 3]], .int 2]] : List D), X_law_led [.int 0, x] 2 := by
  intro x hx
  simp only [List.mem_cons, List.not_mem_nil, or_false] at hx
  rcases hx with rfl | rfl | rfl | rfl
  · exact ⟨0, [(6, 1)], 2, ⟨(sv1 hf (okp (by decide) (by decide) (by omega) (by omega))).ok, by decide, .inl ⟨rfl, _, List.mem_cons_self .., by decide⟩⟩, rfl, rfl⟩
  · exact ⟨0, [(7, 1), (5, 2), (3, 1)], 3, ⟨(sv3 hf (okp (by decide) (by decide) (by omega) (by omega)) (okp (by decide) (by decide) (by omega) (by omega)) (okp (by decide) (by decide) (by omega) (by omega)) (by decide) (by decide)).ok, by decide, .inl ⟨rfl, (3, 1), by simp, by decide⟩⟩, rfl, rfl⟩
  · exact ⟨0, [(2 + far, 1), (1, 4)], 2 + far, ⟨(sv2 hf (okp (by omega) (by decide) (by omega) (by omega)) (okp (by decide) (by decide) (by omega) (by omega)) (by show 1 < 2 + far; omega)).ok, by omega, .inl ⟨rfl, _, List.mem_cons_self .., Int.emod_self⟩⟩, rfl, rfl⟩
  · exact ⟨0, [(4 + 2 * far, 3)], 2, ⟨(sv1 hf (okp (by omega) (by decide) (by omega) (by omega))).ok, by decide, .inl ⟨rfl, _, List.mem_cons_self .., by show (4 + 2 * far) % 2 = 0; omega⟩⟩, rfl, rfl⟩
theorem led1_ok (hf : 0 ≤ far ∧ far < p20) : ∀ x ∈ ([.tup [.lst [.tup [.int 6, .int 2]], .int 2], .tup [.lst [.tup [.int 7, .int 1], .tup [.int 5, .int 3]], .int 3], .tup [.lst [.tup [.int 1, .int (2 + far)]], .int (2 + far)], .tup [.lst [.tup [.int 9, .int 1], .tup [.int 1, .int (5 + far)]], .int 5]] : List D), X_law_led [.int 1, x] 2 := by
  intro x hx
  simp only [List.mem_cons, List.not_mem_nil, or_false] at hx
  rcases hx with rfl | rfl | rfl | rfl
  · exact ⟨1, [(6, 2)], 2, ⟨(sv1 hf (okp (by decide) (by decide) (by omega) (by omega))).ok, by decide, .inr ⟨by decide, _, List.mem_cons_self .., by decide⟩⟩, rfl, rfl⟩
  · exact ⟨1, [(7, 1), (5, 3)], 3, ⟨(sv2 hf (okp (by decide) (by decide) (by omega) (by omega)) (okp (by decide) (by decide) (by omega) (by omega)) (by decide)).ok, by decide, .inr ⟨by decide, (5, 3), by simp, by decide⟩⟩, rfl, rfl⟩
  · exact ⟨1, [(1, 2 + far)], 2 + far, ⟨(sv1 hf (okp (by decide) (by omega) (by omega) (by omega))).ok, by omega, .inr ⟨by decide, _, List.mem_cons_self .., Int.le_refl _⟩⟩, rfl, rfl⟩
  · exact ⟨1, [(9, 1), (1, 5 + far)], 5, ⟨(sv2 hf (okp (by decide) (by decide) (by omega) (by omega)) (okp (by decide) (by omega) (by omega) (by omega)) (by show (1 : Int) < 9; decide)).ok, by decide, .inr ⟨by decide, (1, 5 + far), by simp, by show 5 ≤ 5 + far; omega⟩⟩, rfl, rfl⟩
theorem alike_ok (hf : 0 ≤ far ∧ far < p20) : ∀ door ∈ ([0, 1] : List Int), ∀ x ∈ ([.lst [.tup [.int 5, .int 2]], .lst [.tup [.int 9, .int 1], .tup [.int 7, .int 1], .tup [.int 3, .int (2 + far)]], .lst [.tup [.int 7, .int 3], .tup [.int 1, .int 1]]] : List D), X_law_others [.int door, x] 2 := by
  intro door hdo x hx
  have key : ∃ ps : PP, SumOk ps ∧ (∃ p ∈ ps, p.2 ≠ 1) ∧ x = pL ps := by
    simp only [List.mem_cons, List.not_mem_nil, or_false] at hx
    rcases hx with rfl | rfl | rfl
    · exact ⟨[(5, 2)], (sv1 hf (okp (by decide) (by decide) (by omega) (by omega))).ok, ⟨_, List.mem_cons_self .., by decide⟩, rfl⟩
    · exact ⟨[(9, 1), (7, 1), (3, 2 + far)], (sv3 hf (okp (by decide) (by decide) (by omega) (by omega)) (okp (by decide) (by decide) (by omega) (by omega)) (okp (by decide) (by omega) (by omega) (by omega)) (by decide) (by show (3 : Int) < 7; decide)).ok, ⟨(3, 2 + far), by simp, by show ¬ 2 + far = 1; omega⟩, rfl⟩
    · exact ⟨[(7, 3), (1, 1)], (sv2 hf (okp (by decide) (by decide) (by omega) (by omega)) (okp (by decide) (by decide) (by omega) (by omega)) (by decide)).ok, ⟨(7, 3), by simp, by decide⟩, rfl⟩
  obtain ⟨ps, h1, h2, rfl⟩ := key
  have hd : door = 0 ∨ door = 1 := by simpa using hdo
  rcases hd with rfl | rfl
  · exact ⟨0, _, .inl ⟨rfl, _, .inr ⟨ps, h1, h2, rfl, rfl⟩, rfl⟩, rfl⟩
  · exact ⟨1, _, .inr (.inl ⟨rfl, _, .inr (.inl ⟨ps, h1, h2, rfl, rfl⟩), rfl⟩), rfl⟩
theorem even_ok (hf : 0 ≤ far ∧ far < p20) : ∀ x ∈ ([.lst [.tup [.int 2, .int 1]], .lst [.tup [.int (8 + 2 * far), .int 1], .tup [.int 7, .int 1]], .lst [.tup [.int 8, .int 2]], .lst [.tup [.int 5, .int 1], .tup [.int 2, .int 1]]] : List D), X_law_others [.int 1, x] 2 := by
  intro x hx
  have key : ∃ ps : PP, SumOk ps ∧ ((∃ p ∈ ps, p.2 ≠ 1) ∨ ((∀ p ∈ ps, p.2 = 1) ∧ ∃ p ∈ ps, p.1 % 2 = 0)) ∧ x = pL ps := by
    simp only [List.mem_cons, List.not_mem_nil, or_false] at hx
    rcases hx with rfl | rfl | rfl | rfl
    · exact ⟨[(2, 1)], (sv1 hf (okp (by decide) (by decide) (by omega) (by omega))).ok, .inr ⟨by simp, ⟨_, List.mem_cons_self .., by decide⟩⟩, rfl⟩
    · exact ⟨[(8 + 2 * far, 1), (7, 1)], (sv2 hf (okp (by omega) (by decide) (by omega) (by omega)) (okp (by decide) (by decide) (by omega) (by omega)) (by show 7 < 8 + 2 * far; omega)).ok, .inr ⟨by simp, ⟨_, List.mem_cons_self .., by show (8 + 2 * far) % 2 = 0; omega⟩⟩, rfl⟩
    · exact ⟨[(8, 2)], (sv1 hf (okp (by decide) (by decide) (by omega) (by omega))).ok, .inl ⟨_, List.mem_cons_self .., by decide⟩, rfl⟩
    · exact ⟨[(5, 1), (2, 1)], (sv2 hf (okp (by decide) (by decide) (by omega) (by omega)) (okp (by decide) (by decide) (by omega) (by omega)) (by decide)).ok, .inr ⟨by simp, ⟨(2, 1), by simp, by decide⟩⟩, rfl⟩
  obtain ⟨ps, h1, h2 | ⟨h2, h3⟩, rfl⟩ := key
  · exact ⟨1, _, .inr (.inl ⟨rfl, _, .inr (.inl ⟨ps, h1, h2, rfl, rfl⟩), rfl⟩), rfl⟩
  · exact ⟨1, _, .inr (.inl ⟨rfl, _, .inr (.inr ⟨ps, h1, h2, h3, rfl, rfl⟩), rfl⟩), rfl⟩
theorem own_ok (hf : 0 ≤ far ∧ far < p20) : ∀ x ∈ ([.lst [.tup [.int 2, .int 1]], .lst [.tup [.int 3, .int 1], .tup [.int 1, .int 1]], .lst [.tup [.int 2, .int 3]], .lst [.tup [.int (2 + far), .int 1]]] : List D), X_law_others [.int 2, x] 2 := by
  intro x hx
  have key : ∃ ps : PP, SumV ps ∧ colP ps ≠ ps ∧ x = pL ps := by
    simp only [List.mem_cons, List.not_mem_nil, or_false] at hx
    rcases hx with rfl | rfl | rfl | rfl
    · exact ⟨[(2, 1)], sv1 hf (okp (by decide) (by decide) (by omega) (by omega)), by decide, rfl⟩
    · exact ⟨[(3, 1), (1, 1)], sv2 hf (okp (by decide) (by decide) (by omega) (by omega)) (okp (by decide) (by decide) (by omega) (by omega)) (by decide), by decide, rfl⟩
    · exact ⟨[(2, 3)], sv1 hf (okp (by decide) (by decide) (by omega) (by omega)), by decide, rfl⟩
    · refine ⟨[(2 + far, 1)], sv1 hf (okp (by omega) (by decide) (by omega) (by omega)), ?_, rfl⟩
      rw [col_one]
      intro z
      have : (1 : Int) = 2 + far := congrArg (fun l : PP => (l.headD (0, 0)).1) z
      omega
  obtain ⟨ps, h1, h2, rfl⟩ := key
  exact ⟨2, _, .inr (.inr ⟨rfl, _, .inr (.inl ⟨ps, h1, h2, rfl, rfl⟩), rfl⟩), rfl⟩
theorem num_ok (hf : 0 ≤ far ∧ far < p20) : ∀ x ∈ ([.non, .str "2", .bl true, .bl false, .lst [.int 2], .tup [.int 2], .dic [], .int 1, .int 0, .int (-1), .int (-2 - far)] : List D), tame1 x = true ∧ numB 2 x = false := by
  intro x hx
  simp only [List.mem_cons, List.not_mem_nil, or_false] at hx
  rcases hx with rfl | rfl | rfl | rfl | rfl | rfl | rfl | rfl | rfl | rfl | rfl
  · exact ⟨rfl, rfl⟩
  · exact ⟨rfl, rfl⟩
  · exact ⟨rfl, rfl⟩
  · exact ⟨rfl, rfl⟩
  · exact ⟨rfl, rfl⟩
  · exact ⟨rfl, rfl⟩
  · exact ⟨rfl, rfl⟩
  · exact ⟨rfl, rfl⟩
  · exact ⟨rfl, rfl⟩
  · exact ⟨rfl, rfl⟩
  · exact ⟨rfl, decide_eq_false (by omega)⟩
end
theorem due_eq (i : Nat) : D.lst [.bl (decide ((i : Int) = 0)), .bl (decide ((i : Int) = 1)), .bl (decide ((i : Int) = 2)), .bl (decide ((i : Int) = 3)), .bl true] = bL (kindsL i) := by
  have e : ∀ k : Nat, decide ((i : Int) = ((k : Nat) : Int)) = decide (i = k) := fun k => decide_eq_decide.mpr (by omega)
  have e0 := e 0
  have e1 := e 1
  have e2 := e 2
  have e3 := e 3
  show D.lst [.bl (decide ((i : Int) = ((0 : Nat) : Int))), .bl (decide ((i : Int) = ((1 : Nat) : Int))), .bl (decide ((i : Int) = ((2 : Nat) : Int))), .bl (decide ((i : Int) = ((3 : Nat) : Int))), .bl true] = _
  rw [e0, e1, e2, e3]; rfl
section
variable {P : Program} {w : World} {K : PySem.W.Frag} {mg : Str → Option Value} {base : Heap} {cs : Nat → Addr}
def R_law : List D → D → Prop := fun ds d => ∃ ns : List Int, OkNs ns ∧ ds = [iL ns] ∧ d = .bl true
theorem r_law {ns : List Int} (h : OkNs ns) : R_law [iL ns] (.bl true) := ⟨ns, h, rfl, rfl⟩
def N_law : List Str := ["_law_script", "_law_far", "_law_due", "_law_k", "_law_parts", "_law_kept", "_law_bad", "_law_at", "_law_strange", "_law_some", "_law_alike"]
theorem sc_law : FnScope N_law ["_law_script"] (defScope s_law) := ⟨rfl, rfl, rfl, by decide +kernel, rfl, by decide +kernel, by decide +kernel⟩
abbrev dueD : D := .lst (((List.range 4).map kindsL).map bL)
theorem ok_law {f A1 A2 A3 A4 : Addr} {fd : FuncData} (F : Fun K "law" "law" s_law f fd) (z_range : mg "range" = none) (z_list : mg "list" = none) (z_len : mg "len" = none) (gA1 : mg "_law_with_sum" = some (.ref A1)) (gA2 : mg "_law_with_number" = some (.ref A2)) (gA3 : mg "_law_led" = some (.ref A3)) (gA4 : mg "_law_others" = some (.ref A4)) (c_law_cell_at : CallOk P w K mg base "_law_cell_at" 1 R_law_cell_at) (c_law_sum : CallOk P w K mg base "_law_sum" 3 R_law_sum) (c_law_refused : CallOk P w K mg base "_law_refused" 9 (R_law_refused A1 A2 A3 A4)) (c_law_many_right : CallOk P w K mg base "_law_many_right" 10 R_law_many_right) (c_spread : CallOk P w K mg base "spread" 5 R_spread) : FnOk P w K mg base CX0 11 f fd ["_law_script"] (PSp K R_law) := by
  refine fn_ok F sc_law (by rintro ds d ⟨_, _, rfl, rfl⟩; rfl) ?_
  rintro ds d ⟨ns, hns, rfl, rfl⟩ cdv A outer s H E hr
  have sl : (sumP ns).length ≤ 63 := by
    have := rawS_len ns hns.1
    have := put_len (rawS ns)
    unfold sumP
    omega
  have f0 := Int.emod_nonneg (cellAt ns 0) (show p20 ≠ 0 by decide)
  have f1 := Int.emod_lt_of_pos (cellAt ns 0) (show 0 < p20 by decide)
  refine dss_set 1 sc_law.nd (m := .cl) (d := .int (cellAt ns 0 % p20)) (dm_mod (dm_call c_law_cell_at hr (da_any (dm_arg 0) (da_any (dm_int) (da_nil))) (r_law_cell_at (by decide))) (dm_pow (dm_int) (dm_int) ⟨by decide, by decide, by decide⟩) (by decide)) ?_
  generalize cellAt ns 0 % p20 = far at f0 f1 ⊢
  have hf : 0 ≤ far ∧ far < p20 := ⟨f0, f1⟩
  refine dss_setN 2 (ds := []) sc_law.nd dn_nil rfl ?_
  refine dss_for (m := .cl) (fun i env => ∃ a, env = ([.arg (iL ns), .val (.int far), .own 0, a, .un, .un, .un, .un, .un, .un, .un], [.lst (((List.range i).map kindsL).map bL)])) PassesOwn.never rfl (di_rng1 z_range (dm_int) (by decide) (by decide)) ⟨_, rfl⟩ ?_ ?_
  · rintro i d env hd ⟨a, rfl⟩
    rw [List.getElem?_map] at hd
    obtain ⟨k, hk, rfl⟩ := Option.map_eq_some_iff.mp hd
    obtain ⟨hi4, rfl⟩ := List.getElem?_eq_some_iff.mp hk
    have i4 : i < 4 := by rw [List.length_range] at hi4; exact hi4
    rw [List.getElem_range]
    refine ⟨_, _, dg_name 3 sc_law.nd, rfl, ?_⟩
    refine dss_appC 2 (ds := ((List.range i).map kindsL).map bL) (d := bL (kindsL i)) (.is (dm_lst (da_cons (dm_eq (dm_val 3) (dm_int)) (da_cons (dm_eq (dm_val 3) (dm_int)) (da_cons (dm_eq (dm_val 3) (dm_int)) (da_cons (dm_eq (dm_val 3) (dm_int)) (da_cons (dm_bl) (da_nil)))))) (by show 5 ≤ 100000; decide)) (due_eq i)) (dss_nil ?_) (by rw [List.length_map, List.length_map, List.length_range]; omega)
    have e : ((List.range (i + 1)).map kindsL).map bL = ((List.range i).map kindsL).map bL ++ [bL (kindsL i)] := by rw [List.range_succ, List.map_append, List.map_append]; rfl
    rw [e]
    exact ⟨_, rfl⟩
  rintro env ⟨a, rfl⟩
  show DSs _ (([.arg (iL ns), .val (.int far), .own 0, a, .un, .un, .un, .un, .un, .un, .un], [dueD])) _ _
  refine dss_set 4 sc_law.nd (m := .cl) (d := pL (sumP ns)) (dm_call c_law_sum hr (da_any (dm_arg 0) (da_nil)) (r_law_sum hns)) ?_
  generalize sumP ns = ps at sl ⊢
  refine dss_set 5 sc_law.nd (m := .cl) (d := pL ps) (dm_list z_list (dm_val 4) immP) ?_
  refine dss_setNC 6 (ds := [.non, .tup [], .tup [.tup [.int 1, .int 1]], .str "1", .dic [], .int 5, .lst [.non], .lst [.int 1], .lst [.tup [.int 1]], .lst [.tup [.int 1, .int 1, .int 1]], .lst [.lst [.int 1, .int 1]], .lst [.tup [.int 0, .int 1]], .lst [.tup [.int 1, .int 0]]]) sc_law.nd (dnc_lst (da_cons (dm_non) (da_cons (dm_tup (da_nil) (by show 0 ≤ 100000; decide)) (da_cons (dm_tup (da_cons (dm_tup (da_cons (dm_int) (da_cons (dm_int) (da_nil))) (by show 2 ≤ 100000; decide)) (da_nil)) (by show 1 ≤ 100000; decide)) (da_cons (dm_str) (da_cons (dm_dic0) (da_cons (dm_int) (da_cons (dm_lst (da_cons (dm_non) (da_nil)) (by show 1 ≤ 100000; decide)) (da_cons (dm_lst (da_cons (dm_int) (da_nil)) (by show 1 ≤ 100000; decide)) (da_cons (dm_lst (da_cons (dm_tup (da_cons (dm_int) (da_nil)) (by show 1 ≤ 100000; decide)) (da_nil)) (by show 1 ≤ 100000; decide)) (da_cons (dm_lst (da_cons (dm_tup (da_cons (dm_int) (da_cons (dm_int) (da_cons (dm_int) (da_nil)))) (by show 3 ≤ 100000; decide)) (da_nil)) (by show 1 ≤ 100000; decide)) (da_cons (dm_lst (da_cons (dm_lst (da_cons (dm_int) (da_cons (dm_int) (da_nil))) (by show 2 ≤ 100000; decide)) (da_nil)) (by show 1 ≤ 100000; decide)) (da_cons (dm_lst (da_cons (dm_tup (da_cons (dm_int) (da_cons (dm_int) (da_nil))) (by show 2 ≤ 100000; decide)) (da_nil)) (by show 1 ≤ 100000; decide)) (da_cons (dm_lst (da_cons (dm_tup (da_cons (dm_int) (da_cons (dm_int) (da_nil))) (by show 2 ≤ 100000; decide)) (da_nil)) (by show 1 ≤ 100000; decide)) (da_nil)))))))))))))) (by show 13 ≤ 100000; decide)) ?_
  refine dss_appC 6 (ds := [.non, .tup [], .tup [.tup [.int 1, .int 1]], .str "1", .dic [], .int 5, .lst [.non], .lst [.int 1], .lst [.tup [.int 1]], .lst [.tup [.int 1, .int 1, .int 1]], .lst [.lst [.int 1, .int 1]], .lst [.tup [.int 0, .int 1]], .lst [.tup [.int 1, .int 0]]]) (d := .lst [.tup [.int (-1 - far), .int 1]]) (dm_lst (da_cons (dm_tup (da_cons (dm_sub (dm_neg (dm_int)) (dm_val 1)) (da_cons (dm_int) (da_nil))) (by show 2 ≤ 100000; decide)) (da_nil)) (by show 1 ≤ 100000; decide)) ?_ (by show 13 < 100000; decide)
  refine dss_setNC 6 (ds := badL far) sc_law.nd (dnc_catO 6 (ds := [.non, .tup [], .tup [.tup [.int 1, .int 1]], .str "1", .dic [], .int 5, .lst [.non], .lst [.int 1], .lst [.tup [.int 1]], .lst [.tup [.int 1, .int 1, .int 1]], .lst [.lst [.int 1, .int 1]], .lst [.tup [.int 0, .int 1]], .lst [.tup [.int 1, .int 0]]] ++ [.lst [.tup [.int (-1 - far), .int 1]]]) (es' := [.lst [.tup [.int 1, .int (-1 - far)]], .lst [.tup [.bl true, .int 1]], .lst [.tup [.int 1, .bl true]], .lst [.tup [.str "1", .int 1]], .lst [.tup [.int 1, .non]], .lst [.tup [.int 1, .int 1], .tup [.int 2, .int 1]], .lst [.tup [.int 3, .int 1], .tup [.int 3, .int 2]]]) (dm_lst (da_cons (dm_lst (da_cons (dm_tup (da_cons (dm_int) (da_cons (dm_sub (dm_neg (dm_int)) (dm_val 1)) (da_nil))) (by show 2 ≤ 100000; decide)) (da_nil)) (by show 1 ≤ 100000; decide)) (da_cons (dm_lst (da_cons (dm_tup (da_cons (dm_bl) (da_cons (dm_int) (da_nil))) (by show 2 ≤ 100000; decide)) (da_nil)) (by show 1 ≤ 100000; decide)) (da_cons (dm_lst (da_cons (dm_tup (da_cons (dm_int) (da_cons (dm_bl) (da_nil))) (by show 2 ≤ 100000; decide)) (da_nil)) (by show 1 ≤ 100000; decide)) (da_cons (dm_lst (da_cons (dm_tup (da_cons (dm_str) (da_cons (dm_int) (da_nil))) (by show 2 ≤ 100000; decide)) (da_nil)) (by show 1 ≤ 100000; decide)) (da_cons (dm_lst (da_cons (dm_tup (da_cons (dm_int) (da_cons (dm_non) (da_nil))) (by show 2 ≤ 100000; decide)) (da_nil)) (by show 1 ≤ 100000; decide)) (da_cons (dm_lst (da_cons (dm_tup (da_cons (dm_int) (da_cons (dm_int) (da_nil))) (by show 2 ≤ 100000; decide)) (da_cons (dm_tup (da_cons (dm_int) (da_cons (dm_int) (da_nil))) (by show 2 ≤ 100000; decide)) (da_nil))) (by show 2 ≤ 100000; decide)) (da_cons (dm_lst (da_cons (dm_tup (da_cons (dm_int) (da_cons (dm_int) (da_nil))) (by show 2 ≤ 100000; decide)) (da_cons (dm_tup (da_cons (dm_int) (da_cons (dm_int) (da_nil))) (by show 2 ≤ 100000; decide)) (da_nil))) (by show 2 ≤ 100000; decide)) (da_nil)))))))) (by show 7 ≤ 100000; decide)) (by show 14 + 7 ≤ 100000; decide)) ?_
  have rg := rg_ok ps.length (by omega)
  refine dss_for (m := .cl) (fun i env => ∃ (xs : List D) (b c : DW.Slot) (ow : D), (∀ x ∈ xs, BadS x) ∧ xs.length ≤ 21 + i ∧ env = ([.arg (iL ns), .val (.int far), .own 0, a, .val (pL ps), .val (pL ps), .own 2, b, c, .un, .un], [dueD, ow, .lst xs])) PassesOwn.never rfl (di_rng3 z_range (dm_int) (dm_lenT' (enc := pD) z_len (dm_val 4)) (dm_add (dm_int) (dm_div (dm_lenT' (enc := pD) z_len (dm_val 4)) (dm_int) ⟨by decide, by decide +kernel⟩)) rg.1) ⟨badL far, _, _, _, bad_all f0, by show 21 ≤ 21; decide, rfl⟩ ?_ ?_
  · rintro i d env hd ⟨xs, b, c, ow, hx, hl, rfl⟩
    have il : i < rgN ps.length := by
      have := (List.getElem?_eq_some_iff.mp hd).1
      rw [List.length_map, List.length_range] at this
      exact this
    rw [List.getElem?_map] at hd
    obtain ⟨k, hk, rfl⟩ := Option.map_eq_some_iff.mp hd
    have r2 := rg.2
    generalize (0 : Int) + ((k : Nat) : Int) * (1 + ((ps.length : Nat) : Int) / 6) = at_
    have m0 := Int.emod_nonneg at_ (show (7 : Int) ≠ 0 by decide)
    have m1 := Int.emod_lt_of_pos at_ (show (0 : Int) < 7 by decide)
    have st := strange_ok (strangeL.getD (at_ % 7).toNat .non) (by
      have h7 : (at_ % 7).toNat < strangeL.length := by show _ < 7; omega
      rw [List.getD_eq_getElem?_getD, List.getElem?_eq_getElem h7]
      exact List.getElem_mem h7)
    have c1 := cutL_len ps none (some at_)
    have c2 := cutL_len ps (some (at_ + 1)) none
    refine ⟨_, _, dg_name 7 sc_law.nd, rfl, ?_⟩
    refine dss_set 8 sc_law.nd (m := .cl) (d := strangeL.getD (at_ % 7).toNat .non) (dm_ixT (ds := strangeL) (dm_tup (da_cons (dm_non) (da_cons (dm_tup (da_cons (dm_int) (da_cons (dm_int) (da_nil))) (by show 2 ≤ 100000; decide)) (da_cons (dm_lst (da_cons (dm_int) (da_cons (dm_int) (da_nil))) (by show 2 ≤ 100000; decide)) (da_cons (dm_tup (da_cons (dm_int) (da_cons (dm_int) (da_nil))) (by show 2 ≤ 100000; decide)) (da_cons (dm_tup (da_cons (dm_int) (da_cons (dm_bl) (da_nil))) (by show 2 ≤ 100000; decide)) (da_cons (dm_tup (da_cons (dm_str) (da_cons (dm_int) (da_nil))) (by show 2 ≤ 100000; decide)) (da_cons (dm_tup (da_cons (dm_int) (da_cons (dm_int) (da_cons (dm_int) (da_nil)))) (by show 3 ≤ 100000; decide)) (da_nil)))))))) (by show 7 ≤ 100000; decide)) (dm_mod (dm_val 7) (dm_int) (by decide)) (atI_getD (xs := strangeL) D.non m0 m1)) ?_
    generalize strangeL.getD (at_ % 7).toNat .non = sx at st ⊢
    refine dss_appC 6 (ds := xs) (d := .lst (((cutL ps none (some at_)).map pD ++ [sx]) ++ (cutL ps (some (at_ + 1)) none).map pD)) (dm_cat (dm_cat (dm_sliceT (enc := pD) (dm_val 4) (imL fun _ => rfl) do_none (do_some (dm_val 7))) (dm_lst (da_cons (dm_val 8) (da_nil)) (by show 1 ≤ 100000; decide)) (by rw [List.length_map]; show _ + 1 ≤ _; omega)) (dm_sliceT (enc := pD) (dm_val 4) (imL fun _ => rfl) (do_some (dm_add (dm_val 7) (dm_int))) do_none) (by rw [List.length_append, List.length_map, List.length_map]; show _ + 1 + _ ≤ _; omega)) (dss_nil ⟨_, _, _, _, fun x hx' => ?_, ?_, rfl⟩) (by omega)
    · rcases List.mem_append.mp hx' with h | h
      · exact hx x h
      · obtain rfl : x = _ := List.mem_singleton.mp h
        exact bad_cut st (by omega)
    · rw [List.length_append, List.length_singleton]; omega
  rintro env ⟨xs, b, c, ow, hx, hl, rfl⟩
  have r2 := rg.2
  rw [List.length_map, List.length_range] at hl
  refine dss_if1 (k := !true) (dt_not (dt_val (dm_call c_law_refused hr (da_any (dm_fn gA1) (da_any (dm_listRng rfl z_list z_range (dm_int) (by decide) (by decide)) (da_any (dm_own 6) (da_any (dm_ixL (enc := bL) (as := (List.range 4).map kindsL) (x := kindsL 0) (dm_own 2) (dm_int) rfl) (da_nil))))) ⟨A1, X_law_with_sum, _, xs, 0, ⟨.inl ⟨rfl, rfl⟩, by decide, fun door _ thing ht => ⟨door, thing, hx thing ht, rfl, rfl⟩, by omega⟩, rfl, rfl⟩))) (fun hk => by cases hk) (fun _ => ?_)
  refine dss_set 8 sc_law.nd (m := .cl) (d := .lst [.non, .str "2", .bl true, .bl false, .lst [.int 2], .tup [.int 2], .dic [], .int 1, .int 0, .int (-1), .int (-2 - far)]) (dm_lst (da_cons (dm_non) (da_cons (dm_str) (da_cons (dm_bl) (da_cons (dm_bl) (da_cons (dm_lst (da_cons (dm_int) (da_nil)) (by show 1 ≤ 100000; decide)) (da_cons (dm_tup (da_cons (dm_int) (da_nil)) (by show 1 ≤ 100000; decide)) (da_cons (dm_dic0) (da_cons (dm_int) (da_cons (dm_int) (da_cons (dm_neg (dm_int)) (da_cons (dm_sub (dm_neg (dm_int)) (dm_val 1)) (da_nil)))))))))))) (by show 11 ≤ 100000; decide)) ?_
  refine dss_if1 (k := !true) (dt_not (dt_val (dm_call c_law_refused hr (da_any (dm_fn gA2) (da_any (dm_lst (da_cons (dm_int) (da_cons (dm_int) (da_nil))) (by show 2 ≤ 100000; decide)) (da_any (dm_val 8) (da_any (dm_ixL (enc := bL) (as := (List.range 4).map kindsL) (x := kindsL 1) (dm_own 2) (dm_int) rfl) (da_nil))))) ⟨A2, X_law_with_number, [0, 1], [.non, .str "2", .bl true, .bl false, .lst [.int 2], .tup [.int 2], .dic [], .int 1, .int 0, .int (-1), .int (-2 - far)], 1, ⟨.inr (.inl ⟨rfl, rfl⟩), by decide, fun door _ thing ht => ⟨door, thing, num_ok hf thing ht, rfl, rfl⟩, by show 11 ≤ 1000; decide⟩, rfl, rfl⟩))) (fun hk => by cases hk) (fun _ => ?_)
  refine dss_set 9 sc_law.nd (m := .cl) (d := .lst [.tup [.lst [.tup [.int 6, .int 1]], .int 2], .tup [.lst [.tup [.int 7, .int 1], .tup [.int 5, .int 2], .tup [.int 3, .int 1]], .int 3], .tup [.lst [.tup [.int (2 + far), .int 1], .tup [.int 1, .int 4]], .int (2 + far)], .tup [.lst [.tup [.int (4 + 2 * far), .int 3]], .int 2]]) (dm_lst (da_cons (dm_tup (da_cons (dm_lst (da_cons (dm_tup (da_cons (dm_int) (da_cons (dm_int) (da_nil))) (by show 2 ≤ 100000; decide)) (da_nil)) (by show 1 ≤ 100000; decide)) (da_cons (dm_int) (da_nil))) (by show 2 ≤ 100000; decide)) (da_cons (dm_tup (da_cons (dm_lst (da_cons (dm_tup (da_cons (dm_int) (da_cons (dm_int) (da_nil))) (by show 2 ≤ 100000; decide)) (da_cons (dm_tup (da_cons (dm_int) (da_cons (dm_int) (da_nil))) (by show 2 ≤ 100000; decide)) (da_cons (dm_tup (da_cons (dm_int) (da_cons (dm_int) (da_nil))) (by show 2 ≤ 100000; decide)) (da_nil)))) (by show 3 ≤ 100000; decide)) (da_cons (dm_int) (da_nil))) (by show 2 ≤ 100000; decide)) (da_cons (dm_tup (da_cons (dm_lst (da_cons (dm_tup (da_cons (dm_add (dm_int) (dm_val 1)) (da_cons (dm_int) (da_nil))) (by show 2 ≤ 100000; decide)) (da_cons (dm_tup (da_cons (dm_int) (da_cons (dm_int) (da_nil))) (by show 2 ≤ 100000; decide)) (da_nil))) (by show 2 ≤ 100000; decide)) (da_cons (dm_add (dm_int) (dm_val 1)) (da_nil))) (by show 2 ≤ 100000; decide)) (da_cons (dm_tup (da_cons (dm_lst (da_cons (dm_tup (da_cons (dm_add (dm_int) (dm_mulS (dm_int) (dm_val 1) (cm_l (by decide)))) (da_cons (dm_int) (da_nil))) (by show 2 ≤ 100000; decide)) (da_nil)) (by show 1 ≤ 100000; decide)) (da_cons (dm_int) (da_nil))) (by show 2 ≤ 100000; decide)) (da_nil))))) (by show 4 ≤ 100000; decide)) ?_
  refine dss_if1 (k := !true) (dt_not (dt_val (dm_call c_law_refused hr (da_any (dm_fn gA3) (da_any (dm_lst (da_cons (dm_int) (da_nil)) (by show 1 ≤ 100000; decide)) (da_any (dm_val 9) (da_any (dm_ixL (enc := bL) (as := (List.range 4).map kindsL) (x := kindsL 2) (dm_own 2) (dm_int) rfl) (da_nil))))) ⟨A3, X_law_led, [0], [.tup [.lst [.tup [.int 6, .int 1]], .int 2], .tup [.lst [.tup [.int 7, .int 1], .tup [.int 5, .int 2], .tup [.int 3, .int 1]], .int 3], .tup [.lst [.tup [.int (2 + far), .int 1], .tup [.int 1, .int 4]], .int (2 + far)], .tup [.lst [.tup [.int (4 + 2 * far), .int 3]], .int 2]], 2, ⟨.inr (.inr (.inl ⟨rfl, rfl⟩)), by decide, fun door hdo thing ht => by
    obtain rfl : door = 0 := List.mem_singleton.mp hdo
    exact led0_ok hf thing ht, by show 4 ≤ 1000; decide⟩, rfl, rfl⟩))) (fun hk => by cases hk) (fun _ => ?_)
  refine dss_set 9 sc_law.nd (m := .cl) (d := .lst [.tup [.lst [.tup [.int 6, .int 2]], .int 2], .tup [.lst [.tup [.int 7, .int 1], .tup [.int 5, .int 3]], .int 3], .tup [.lst [.tup [.int 1, .int (2 + far)]], .int (2 + far)], .tup [.lst [.tup [.int 9, .int 1], .tup [.int 1, .int (5 + far)]], .int 5]]) (dm_lst (da_cons (dm_tup (da_cons (dm_lst (da_cons (dm_tup (da_cons (dm_int) (da_cons (dm_int) (da_nil))) (by show 2 ≤ 100000; decide)) (da_nil)) (by show 1 ≤ 100000; decide)) (da_cons (dm_int) (da_nil))) (by show 2 ≤ 100000; decide)) (da_cons (dm_tup (da_cons (dm_lst (da_cons (dm_tup (da_cons (dm_int) (da_cons (dm_int) (da_nil))) (by show 2 ≤ 100000; decide)) (da_cons (dm_tup (da_cons (dm_int) (da_cons (dm_int) (da_nil))) (by show 2 ≤ 100000; decide)) (da_nil))) (by show 2 ≤ 100000; decide)) (da_cons (dm_int) (da_nil))) (by show 2 ≤ 100000; decide)) (da_cons (dm_tup (da_cons (dm_lst (da_cons (dm_tup (da_cons (dm_int) (da_cons (dm_add (dm_int) (dm_val 1)) (da_nil))) (by show 2 ≤ 100000; decide)) (da_nil)) (by show 1 ≤ 100000; decide)) (da_cons (dm_add (dm_int) (dm_val 1)) (da_nil))) (by show 2 ≤ 100000; decide)) (da_cons (dm_tup (da_cons (dm_lst (da_cons (dm_tup (da_cons (dm_int) (da_cons (dm_int) (da_nil))) (by show 2 ≤ 100000; decide)) (da_cons (dm_tup (da_cons (dm_int) (da_cons (dm_add (dm_int) (dm_val 1)) (da_nil))) (by show 2 ≤ 100000; decide)) (da_nil))) (by show 2 ≤ 100000; decide)) (da_cons (dm_int) (da_nil))) (by show 2 ≤ 100000; decide)) (da_nil))))) (by show 4 ≤ 100000; decide)) ?_
  refine dss_if1 (k := !true) (dt_not (dt_val (dm_call c_law_refused hr (da_any (dm_fn gA3) (da_any (dm_lst (da_cons (dm_int) (da_nil)) (by show 1 ≤ 100000; decide)) (da_any (dm_val 9) (da_any (dm_ixL (enc := bL) (as := (List.range 4).map kindsL) (x := kindsL 2) (dm_own 2) (dm_int) rfl) (da_nil))))) ⟨A3, X_law_led, [1], [.tup [.lst [.tup [.int 6, .int 2]], .int 2], .tup [.lst [.tup [.int 7, .int 1], .tup [.int 5, .int 3]], .int 3], .tup [.lst [.tup [.int 1, .int (2 + far)]], .int (2 + far)], .tup [.lst [.tup [.int 9, .int 1], .tup [.int 1, .int (5 + far)]], .int 5]], 2, ⟨.inr (.inr (.inl ⟨rfl, rfl⟩)), by decide, fun door hdo thing ht => by
    obtain rfl : door = 1 := List.mem_singleton.mp hdo
    exact led1_ok hf thing ht, by show 4 ≤ 1000; decide⟩, rfl, rfl⟩))) (fun hk => by cases hk) (fun _ => ?_)
  refine dss_set 10 sc_law.nd (m := .cl) (d := .lst [.lst [.tup [.int 5, .int 2]], .lst [.tup [.int 9, .int 1], .tup [.int 7, .int 1], .tup [.int 3, .int (2 + far)]], .lst [.tup [.int 7, .int 3], .tup [.int 1, .int 1]]]) (dm_lst (da_cons (dm_lst (da_cons (dm_tup (da_cons (dm_int) (da_cons (dm_int) (da_nil))) (by show 2 ≤ 100000; decide)) (da_nil)) (by show 1 ≤ 100000; decide)) (da_cons (dm_lst (da_cons (dm_tup (da_cons (dm_int) (da_cons (dm_int) (da_nil))) (by show 2 ≤ 100000; decide)) (da_cons (dm_tup (da_cons (dm_int) (da_cons (dm_int) (da_nil))) (by show 2 ≤ 100000; decide)) (da_cons (dm_tup (da_cons (dm_int) (da_cons (dm_add (dm_int) (dm_val 1)) (da_nil))) (by show 2 ≤ 100000; decide)) (da_nil)))) (by show 3 ≤ 100000; decide)) (da_cons (dm_lst (da_cons (dm_tup (da_cons (dm_int) (da_cons (dm_int) (da_nil))) (by show 2 ≤ 100000; decide)) (da_cons (dm_tup (da_cons (dm_int) (da_cons (dm_int) (da_nil))) (by show 2 ≤ 100000; decide)) (da_nil))) (by show 2 ≤ 100000; decide)) (da_nil)))) (by show 3 ≤ 100000; decide)) ?_
  refine dss_if1 (k := !true) (dt_not (dt_val (dm_call c_law_refused hr (da_any (dm_fn gA4) (da_any (dm_lst (da_cons (dm_int) (da_cons (dm_int) (da_nil))) (by show 2 ≤ 100000; decide)) (da_any (dm_val 10) (da_any (dm_ixL (enc := bL) (as := (List.range 4).map kindsL) (x := kindsL 2) (dm_own 2) (dm_int) rfl) (da_nil))))) ⟨A4, X_law_others, [0, 1], [.lst [.tup [.int 5, .int 2]], .lst [.tup [.int 9, .int 1], .tup [.int 7, .int 1], .tup [.int 3, .int (2 + far)]], .lst [.tup [.int 7, .int 3], .tup [.int 1, .int 1]]], 2, ⟨.inr (.inr (.inr ⟨rfl, rfl⟩)), by decide, alike_ok hf, by show 3 ≤ 1000; decide⟩, rfl, rfl⟩))) (fun hk => by cases hk) (fun _ => ?_)
  refine dss_set 9 sc_law.nd (m := .cl) (d := .lst [.lst [.tup [.int 2, .int 1]], .lst [.tup [.int (8 + 2 * far), .int 1], .tup [.int 7, .int 1]], .lst [.tup [.int 8, .int 2]], .lst [.tup [.int 5, .int 1], .tup [.int 2, .int 1]]]) (dm_lst (da_cons (dm_lst (da_cons (dm_tup (da_cons (dm_int) (da_cons (dm_int) (da_nil))) (by show 2 ≤ 100000; decide)) (da_nil)) (by show 1 ≤ 100000; decide)) (da_cons (dm_lst (da_cons (dm_tup (da_cons (dm_add (dm_int) (dm_mulS (dm_int) (dm_val 1) (cm_l (by decide)))) (da_cons (dm_int) (da_nil))) (by show 2 ≤ 100000; decide)) (da_cons (dm_tup (da_cons (dm_int) (da_cons (dm_int) (da_nil))) (by show 2 ≤ 100000; decide)) (da_nil))) (by show 2 ≤ 100000; decide)) (da_cons (dm_lst (da_cons (dm_tup (da_cons (dm_int) (da_cons (dm_int) (da_nil))) (by show 2 ≤ 100000; decide)) (da_nil)) (by show 1 ≤ 100000; decide)) (da_cons (dm_lst (da_cons (dm_tup (da_cons (dm_int) (da_cons (dm_int) (da_nil))) (by show 2 ≤ 100000; decide)) (da_cons (dm_tup (da_cons (dm_int) (da_cons (dm_int) (da_nil))) (by show 2 ≤ 100000; decide)) (da_nil))) (by show 2 ≤ 100000; decide)) (da_nil))))) (by show 4 ≤ 100000; decide)) ?_
  refine dss_if1 (k := !true) (dt_not (dt_val (dm_call c_law_refused hr (da_any (dm_fn gA4) (da_any (dm_lst (da_cons (dm_int) (da_nil)) (by show 1 ≤ 100000; decide)) (da_any (dm_val 9) (da_any (dm_ixL (enc := bL) (as := (List.range 4).map kindsL) (x := kindsL 2) (dm_own 2) (dm_int) rfl) (da_nil))))) ⟨A4, X_law_others, [1], [.lst [.tup [.int 2, .int 1]], .lst [.tup [.int (8 + 2 * far), .int 1], .tup [.int 7, .int 1]], .lst [.tup [.int 8, .int 2]], .lst [.tup [.int 5, .int 1], .tup [.int 2, .int 1]]], 2, ⟨.inr (.inr (.inr ⟨rfl, rfl⟩)), by decide, fun door hdo thing ht => by
    obtain rfl : door = 1 := List.mem_singleton.mp hdo
    exact even_ok hf thing ht, by show 4 ≤ 1000; decide⟩, rfl, rfl⟩))) (fun hk => by cases hk) (fun _ => ?_)
  refine dss_if1 (k := !true) (dt_not (dt_val (dm_call c_law_refused hr (da_any (dm_fn gA4) (da_any (dm_lst (da_cons (dm_int) (da_nil)) (by show 1 ≤ 100000; decide)) (da_any (dm_lst (da_cons (dm_lst (da_cons (dm_tup (da_cons (dm_int) (da_cons (dm_int) (da_nil))) (by show 2 ≤ 100000; decide)) (da_nil)) (by show 1 ≤ 100000; decide)) (da_cons (dm_lst (da_cons (dm_tup (da_cons (dm_int) (da_cons (dm_int) (da_nil))) (by show 2 ≤ 100000; decide)) (da_cons (dm_tup (da_cons (dm_int) (da_cons (dm_int) (da_nil))) (by show 2 ≤ 100000; decide)) (da_nil))) (by show 2 ≤ 100000; decide)) (da_cons (dm_lst (da_cons (dm_tup (da_cons (dm_int) (da_cons (dm_int) (da_nil))) (by show 2 ≤ 100000; decide)) (da_nil)) (by show 1 ≤ 100000; decide)) (da_cons (dm_lst (da_cons (dm_tup (da_cons (dm_add (dm_int) (dm_val 1)) (da_cons (dm_int) (da_nil))) (by show 2 ≤ 100000; decide)) (da_nil)) (by show 1 ≤ 100000; decide)) (da_nil))))) (by show 4 ≤ 100000; decide)) (da_any (dm_ixL (enc := bL) (as := (List.range 4).map kindsL) (x := kindsL 2) (dm_own 2) (dm_int) rfl) (da_nil))))) ⟨A4, X_law_others, [2], [.lst [.tup [.int 2, .int 1]], .lst [.tup [.int 3, .int 1], .tup [.int 1, .int 1]], .lst [.tup [.int 2, .int 3]], .lst [.tup [.int (2 + far), .int 1]]], 2, ⟨.inr (.inr (.inr ⟨rfl, rfl⟩)), by decide, fun door hdo thing ht => by
    obtain rfl : door = 2 := List.mem_singleton.mp hdo
    exact own_ok hf thing ht, by show 4 ≤ 1000; decide⟩, rfl, rfl⟩))) (fun hk => by cases hk) (fun _ => ?_)
  refine dss_ret (.is (dm_and (dm_call c_law_many_right hr (da_any (dm_val 1) (da_any (dm_ixL (enc := bL) (as := (List.range 4).map kindsL) (x := kindsL 3) (dm_own 2) (dm_int) rfl) (da_nil))) ⟨far, hf, rfl, rfl⟩) (fun _ => dm_and (dm_eqT (enc := pL) (x := ps) (y := ps) eqv_pL cmp_pL hr.units (dm_val 4) (dm_val 5)) (fun _ => dm_one (dm_eqT (enc := pL) (x := [(1, 1)]) (y := [(1, 1)]) eqv_pL cmp_pL hr.units (dm_call c_spread hr (da_any (dm_lst (da_cons (dm_tup (da_cons (dm_int) (da_cons (dm_int) (da_nil))) (by show 2 ≤ 100000; decide)) (da_nil)) (by show 1 ≤ 100000; decide)) (da_any (dm_add (dm_int) (dm_val 1)) (da_nil))) ⟨2 + far, by omega, rfl, rfl⟩) (dm_lst (da_cons (dm_tup (da_cons (dm_int) (da_cons (dm_int) (da_nil))) (by show 2 ≤ 100000; decide)) (da_nil)) (by show 1 ≤ 100000; decide)))))) (bl_eq ?_)) rfl
  rw [decide_eq_true rfl, decide_eq_true rfl]; rfl
end
end KX
namespace KX
open PySem PySem.Spec PyProof.Rows L2 DW
def csOf (CB CN CS CT : Addr) : Nat → Addr
  | 0 => CB
  | 1 => CN
  | 2 => CS
  | _ => CT
theorem all4 {p : Nat → Prop} (h0 : p 0) (h1 : p 1) (h2 : p 2) (h3 : p 3) : ∀ i, i < 4 → p i
  | 0, _ => h0
  | 1, _ => h1
  | 2, _ => h2
  | 3, _ => h3
  | n + 4, h => absurd h (Nat.not_lt.mpr (Nat.le_add_left 4 n))
set_option maxHeartbeats 0 in
theorem all_mk {l : PySem.W.OpenLaw} {w : World} {K : PySem.W.Frag} {h : Heap} {mg : Str → Option Value} {fa f0 f1 f2 f3 f4 f5 f6 f7 f8 f9 f10 f11 f12 f13 f14 f15 f16 f17 f18 f19 f20 f21 f22 f23 f24 f25 f26 f27 f28 f29 f30 f31 f32 CB CN CS CT CP : Addr} (X : K.In h) (G : h.Ns mainGlobals mg) (hfa : mg "law" = some (.ref fa))
    {od0 an0 : Option Addr} {sl0 : Array (Option Value)} {oc0 kV0 dc0 pm0 cd0 ct0 : Value}
    {od1 an1 : Option Addr} {sl1 : Array (Option Value)} {oc1 kV1 dc1 pm1 cd1 ct1 : Value}
    {od2 an2 : Option Addr} {sl2 : Array (Option Value)} {oc2 kV2 dc2 pm2 cd2 ct2 : Value}
    {od3 an3 : Option Addr} {sl3 : Array (Option Value)} {oc3 kV3 dc3 pm3 cd3 ct3 : Value}
    {od4 an4 : Option Addr} {sl4 : Array (Option Value)} {oc4 kV4 dc4 pm4 cd4 ct4 : Value}
    {od5 an5 : Option Addr} {sl5 : Array (Option Value)} {oc5 kV5 dc5 pm5 cd5 ct5 : Value}
    {od6 an6 : Option Addr} {sl6 : Array (Option Value)} {oc6 kV6 dc6 pm6 cd6 ct6 : Value}
    {od7 an7 : Option Addr} {sl7 : Array (Option Value)} {oc7 kV7 dc7 pm7 cd7 ct7 : Value}
    {od8 an8 : Option Addr} {sl8 : Array (Option Value)} {oc8 kV8 dc8 pm8 cd8 ct8 : Value}
    {od9 an9 : Option Addr} {sl9 : Array (Option Value)} {oc9 kV9 dc9 pm9 cd9 ct9 : Value}
    {od10 an10 : Option Addr} {sl10 : Array (Option Value)} {oc10 kV10 dc10 pm10 cd10 ct10 : Value}
    {od11 an11 : Option Addr} {sl11 : Array (Option Value)} {oc11 kV11 dc11 pm11 cd11 ct11 : Value}
    {od12 an12 : Option Addr} {sl12 : Array (Option Value)} {oc12 kV12 dc12 pm12 cd12 ct12 : Value}
    {od13 an13 : Option Addr} {sl13 : Array (Option Value)} {oc13 kV13 dc13 pm13 cd13 ct13 : Value}
    {od14 an14 : Option Addr} {sl14 : Array (Option Value)} {oc14 kV14 dc14 pm14 cd14 ct14 : Value}
    {od15 an15 : Option Addr} {sl15 : Array (Option Value)} {oc15 kV15 dc15 pm15 cd15 ct15 : Value}
    {od16 an16 : Option Addr} {sl16 : Array (Option Value)} {oc16 kV16 dc16 pm16 cd16 ct16 : Value}
    {od17 an17 : Option Addr} {sl17 : Array (Option Value)} {oc17 kV17 dc17 pm17 cd17 ct17 : Value}
    {od18 an18 : Option Addr} {sl18 : Array (Option Value)} {oc18 kV18 dc18 pm18 cd18 ct18 : Value}
    {od19 an19 : Option Addr} {sl19 : Array (Option Value)} {oc19 kV19 dc19 pm19 cd19 ct19 : Value}
    {od20 an20 : Option Addr} {sl20 : Array (Option Value)} {oc20 kV20 dc20 pm20 cd20 ct20 : Value}
    {od21 an21 : Option Addr} {sl21 : Array (Option Value)} {oc21 kV21 dc21 pm21 cd21 ct21 : Value}
    {od22 an22 : Option Addr} {sl22 : Array (Option Value)} {oc22 kV22 dc22 pm22 cd22 ct22 : Value}
    {od23 an23 : Option Addr} {sl23 : Array (Option Value)} {oc23 kV23 dc23 pm23 cd23 ct23 : Value}
    {od24 an24 : Option Addr} {sl24 : Array (Option Value)} {oc24 kV24 dc24 pm24 cd24 ct24 : Value}
    {od25 an25 : Option Addr} {sl25 : Array (Option Value)} {oc25 kV25 dc25 pm25 cd25 ct25 : Value}
    {od26 an26 : Option Addr} {sl26 : Array (Option Value)} {oc26 kV26 dc26 pm26 cd26 ct26 : Value}
    {od27 an27 : Option Addr} {sl27 : Array (Option Value)} {oc27 kV27 dc27 pm27 cd27 ct27 : Value}
    {od28 an28 : Option Addr} {sl28 : Array (Option Value)} {oc28 kV28 dc28 pm28 cd28 ct28 : Value}
    {od29 an29 : Option Addr} {sl29 : Array (Option Value)} {oc29 kV29 dc29 pm29 cd29 ct29 : Value}
    {od30 an30 : Option Addr} {sl30 : Array (Option Value)} {oc30 kV30 dc30 pm30 cd30 ct30 : Value}
    {od31 an31 : Option Addr} {sl31 : Array (Option Value)} {oc31 kV31 dc31 pm31 cd31 ct31 : Value}
    {od32 an32 : Option Addr} {sl32 : Array (Option Value)} {oc32 kV32 dc32 pm32 cd32 ct32 : Value}
    {tM : Tok}
    (aCB : PySem.W.nsIn K mainGlobals "BadSum" = some (some (.ref CB)))
    (aCN : PySem.W.nsIn K mainGlobals "BadNumber" = some (some (.ref CN)))
    (aCS : PySem.W.nsIn K mainGlobals "NotSuch" = some (some (.ref CS)))
    (aCT : PySem.W.nsIn K mainGlobals "TooMany" = some (some (.ref CT)))
    (aCP : PySem.W.nsIn K mainGlobals "PartsError" = some (some (.ref CP)))
    (xqB : PySem.W.excIn K CB [.type "ValueError", .type "Exception", .type "BaseException", .type "object"] "ValueError.__new__" = true)
    (xkB : PySem.W.keepIn K (.ref CB) = true)
    (xbB : PySem.W.subIn K (.ref CB) (.type "BaseException") = some true)
    (xtB : PySem.W.typeIn K (.ref CB) = some (.type "type"))
    (xgB : PySem.W.findIn K (.ref CB) "__getattribute__" = some (some (.builtin "BaseException.__getattribute__")))
    (xhB : PySem.W.findIn K (.ref CB) "__getattr__" = some none)
    (xdB : PySem.W.hasDictIn K CB = true)
    (xaB : PySem.W.findIn K (.ref CB) "__class__" = some (some (.builtin "object.__class__")))
    (xmB : PySem.W.mroIn K CB (.type "object") = some true)
    (xvB : PySem.W.kitOne K (.ref CB) (.type "ValueError") = some true)
    (xsB : PySem.W.subIn K (.ref CB) (.ref CP) = some true)
    (yBB : PySem.W.kitOne K (.ref CB) (.ref CB) = some true)
    (yBN : PySem.W.kitOne K (.ref CB) (.ref CN) = some false)
    (yBS : PySem.W.kitOne K (.ref CB) (.ref CS) = some false)
    (yBT : PySem.W.kitOne K (.ref CB) (.ref CT) = some false)
    (xqN : PySem.W.excIn K CN [.type "ValueError", .type "Exception", .type "BaseException", .type "object"] "ValueError.__new__" = true)
    (xkN : PySem.W.keepIn K (.ref CN) = true)
    (xbN : PySem.W.subIn K (.ref CN) (.type "BaseException") = some true)
    (xtN : PySem.W.typeIn K (.ref CN) = some (.type "type"))
    (xgN : PySem.W.findIn K (.ref CN) "__getattribute__" = some (some (.builtin "BaseException.__getattribute__")))
    (xhN : PySem.W.findIn K (.ref CN) "__getattr__" = some none)
    (xdN : PySem.W.hasDictIn K CN = true)
    (xaN : PySem.W.findIn K (.ref CN) "__class__" = some (some (.builtin "object.__class__")))
    (xmN : PySem.W.mroIn K CN (.type "object") = some true)
    (xvN : PySem.W.kitOne K (.ref CN) (.type "ValueError") = some true)
    (xsN : PySem.W.subIn K (.ref CN) (.ref CP) = some true)
    (yNB : PySem.W.kitOne K (.ref CN) (.ref CB) = some false)
    (yNN : PySem.W.kitOne K (.ref CN) (.ref CN) = some true)
    (yNS : PySem.W.kitOne K (.ref CN) (.ref CS) = some false)
    (yNT : PySem.W.kitOne K (.ref CN) (.ref CT) = some false)
    (xqS : PySem.W.excIn K CS [.type "ValueError", .type "Exception", .type "BaseException", .type "object"] "ValueError.__new__" = true)
    (xkS : PySem.W.keepIn K (.ref CS) = true)
    (xbS : PySem.W.subIn K (.ref CS) (.type "BaseException") = some true)
    (xtS : PySem.W.typeIn K (.ref CS) = some (.type "type"))
    (xgS : PySem.W.findIn K (.ref CS) "__getattribute__" = some (some (.builtin "BaseException.__getattribute__")))
    (xhS : PySem.W.findIn K (.ref CS) "__getattr__" = some none)
    (xdS : PySem.W.hasDictIn K CS = true)
    (xaS : PySem.W.findIn K (.ref CS) "__class__" = some (some (.builtin "object.__class__")))
    (xmS : PySem.W.mroIn K CS (.type "object") = some true)
    (xvS : PySem.W.kitOne K (.ref CS) (.type "ValueError") = some true)
    (xsS : PySem.W.subIn K (.ref CS) (.ref CP) = some true)
    (ySB : PySem.W.kitOne K (.ref CS) (.ref CB) = some false)
    (ySN : PySem.W.kitOne K (.ref CS) (.ref CN) = some false)
    (ySS : PySem.W.kitOne K (.ref CS) (.ref CS) = some true)
    (yST : PySem.W.kitOne K (.ref CS) (.ref CT) = some false)
    (xqT : PySem.W.excIn K CT [.type "ValueError", .type "Exception", .type "BaseException", .type "object"] "ValueError.__new__" = true)
    (xkT : PySem.W.keepIn K (.ref CT) = true)
    (xbT : PySem.W.subIn K (.ref CT) (.type "BaseException") = some true)
    (xtT : PySem.W.typeIn K (.ref CT) = some (.type "type"))
    (xgT : PySem.W.findIn K (.ref CT) "__getattribute__" = some (some (.builtin "BaseException.__getattribute__")))
    (xhT : PySem.W.findIn K (.ref CT) "__getattr__" = some none)
    (xdT : PySem.W.hasDictIn K CT = true)
    (xaT : PySem.W.findIn K (.ref CT) "__class__" = some (some (.builtin "object.__class__")))
    (xmT : PySem.W.mroIn K CT (.type "object") = some true)
    (xvT : PySem.W.kitOne K (.ref CT) (.type "ValueError") = some true)
    (xsT : PySem.W.subIn K (.ref CT) (.ref CP) = some true)
    (yTB : PySem.W.kitOne K (.ref CT) (.ref CB) = some false)
    (yTN : PySem.W.kitOne K (.ref CT) (.ref CN) = some false)
    (yTS : PySem.W.kitOne K (.ref CT) (.ref CS) = some false)
    (yTT : PySem.W.kitOne K (.ref CT) (.ref CT) = some true)
    (xbP : PySem.W.subIn K (.ref CP) (.type "BaseException") = some true)
    (xtP : PySem.W.typeIn K (.ref CP) = some (.type "type"))
    (xdP : PySem.W.hasDictIn K CP = true)
    (xnO : PySem.W.specialIn K (.builtin "object.__class__") "__get__" = some (some (.builtin "getset_descriptor.__get__")))
    (xtO : PySem.W.takesIn K (.builtin "object.__class__") = some true)
    (a0 : PySem.W.nsIn K mainGlobals "is_number_from" = some (some (.ref f0)))
    (l0 : K.lookup f0 = some ⟨oc0, od0, .func (PySem.W.fnOf "is_number_from" "is_number_from" (defArgs s_is_number_from) (defBody s_is_number_from) (defScope s_is_number_from) .none kV0 dc0 pm0 an0 cd0 ct0), sl0⟩)
    (c0 : PySem.W.codeIn K cd0 "is_number_from" = true)
    (k0 : PySem.W.keepIn K (.ref f0) = true)
    (a1 : PySem.W.nsIn K mainGlobals "is_pair" = some (some (.ref f1)))
    (l1 : K.lookup f1 = some ⟨oc1, od1, .func (PySem.W.fnOf "is_pair" "is_pair" (defArgs s_is_pair) (defBody s_is_pair) (defScope s_is_pair) .none kV1 dc1 pm1 an1 cd1 ct1), sl1⟩)
    (c1 : PySem.W.codeIn K cd1 "is_pair" = true)
    (k1 : PySem.W.keepIn K (.ref f1) = true)
    (a2 : PySem.W.nsIn K mainGlobals "is_sum" = some (some (.ref f2)))
    (l2 : K.lookup f2 = some ⟨oc2, od2, .func (PySem.W.fnOf "is_sum" "is_sum" (defArgs s_is_sum) (defBody s_is_sum) (defScope s_is_sum) .none kV2 dc2 pm2 an2 cd2 ct2), sl2⟩)
    (c2 : PySem.W.codeIn K cd2 "is_sum" = true)
    (k2 : PySem.W.keepIn K (.ref f2) = true)
    (a3 : PySem.W.nsIn K mainGlobals "is_unlike" = some (some (.ref f3)))
    (l3 : K.lookup f3 = some ⟨oc3, od3, .func (PySem.W.fnOf "is_unlike" "is_unlike" (defArgs s_is_unlike) (defBody s_is_unlike) (defScope s_is_unlike) .none kV3 dc3 pm3 an3 cd3 ct3), sl3⟩)
    (c3 : PySem.W.codeIn K cd3 "is_unlike" = true)
    (k3 : PySem.W.keepIn K (.ref f3) = true)
    (a4 : PySem.W.nsIn K mainGlobals "_law_cell_at" = some (some (.ref f4)))
    (l4 : K.lookup f4 = some ⟨oc4, od4, .func (PySem.W.fnOf "_law_cell_at" "_law_cell_at" (defArgs s_law_cell_at) (defBody s_law_cell_at) (defScope s_law_cell_at) .none kV4 dc4 pm4 an4 cd4 ct4), sl4⟩)
    (c4 : PySem.W.codeIn K cd4 "_law_cell_at" = true)
    (k4 : PySem.W.keepIn K (.ref f4) = true)
    (a5 : PySem.W.nsIn K mainGlobals "_law_draw" = some (some (.ref f5)))
    (l5 : K.lookup f5 = some ⟨oc5, od5, .func (PySem.W.fnOf "_law_draw" "_law_draw" (defArgs s_law_draw) (defBody s_law_draw) (defScope s_law_draw) .none kV5 dc5 pm5 an5 cd5 ct5), sl5⟩)
    (c5 : PySem.W.codeIn K cd5 "_law_draw" = true)
    (k5 : PySem.W.keepIn K (.ref f5) = true)
    (a6 : PySem.W.nsIn K mainGlobals "_law_number" = some (some (.ref f6)))
    (l6 : K.lookup f6 = some ⟨oc6, od6, .func (PySem.W.fnOf "_law_number" "_law_number" (defArgs s_law_number) (defBody s_law_number) (defScope s_law_number) .none kV6 dc6 pm6 an6 cd6 ct6), sl6⟩)
    (c6 : PySem.W.codeIn K cd6 "_law_number" = true)
    (k6 : PySem.W.keepIn K (.ref f6) = true)
    (a7 : PySem.W.nsIn K mainGlobals "_law_put" = some (some (.ref f7)))
    (l7 : K.lookup f7 = some ⟨oc7, od7, .func (PySem.W.fnOf "_law_put" "_law_put" (defArgs s_law_put) (defBody s_law_put) (defScope s_law_put) .none kV7 dc7 pm7 an7 cd7 ct7), sl7⟩)
    (c7 : PySem.W.codeIn K cd7 "_law_put" = true)
    (k7 : PySem.W.keepIn K (.ref f7) = true)
    (a8 : PySem.W.nsIn K mainGlobals "_law_sum" = some (some (.ref f8)))
    (l8 : K.lookup f8 = some ⟨oc8, od8, .func (PySem.W.fnOf "_law_sum" "_law_sum" (defArgs s_law_sum) (defBody s_law_sum) (defScope s_law_sum) .none kV8 dc8 pm8 an8 cd8 ct8), sl8⟩)
    (c8 : PySem.W.codeIn K cd8 "_law_sum" = true)
    (k8 : PySem.W.keepIn K (.ref f8) = true)
    (a9 : PySem.W.nsIn K mainGlobals "checked_sum" = some (some (.ref f9)))
    (l9 : K.lookup f9 = some ⟨oc9, od9, .func (PySem.W.fnOf "checked_sum" "checked_sum" (defArgs s_checked_sum) (defBody s_checked_sum) (defScope s_checked_sum) .none kV9 dc9 pm9 an9 cd9 ct9), sl9⟩)
    (c9 : PySem.W.codeIn K cd9 "checked_sum" = true)
    (k9 : PySem.W.keepIn K (.ref f9) = true)
    (a10 : PySem.W.nsIn K mainGlobals "checked_unlike" = some (some (.ref f10)))
    (l10 : K.lookup f10 = some ⟨oc10, od10, .func (PySem.W.fnOf "checked_unlike" "checked_unlike" (defArgs s_checked_unlike) (defBody s_checked_unlike) (defScope s_checked_unlike) .none kV10 dc10 pm10 an10 cd10 ct10), sl10⟩)
    (c10 : PySem.W.codeIn K cd10 "checked_unlike" = true)
    (k10 : PySem.W.keepIn K (.ref f10) = true)
    (a11 : PySem.W.nsIn K mainGlobals "check_leader" = some (some (.ref f11)))
    (l11 : K.lookup f11 = some ⟨oc11, od11, .func (PySem.W.fnOf "check_leader" "check_leader" (defArgs s_check_leader) (defBody s_check_leader) (defScope s_check_leader) .none kV11 dc11 pm11 an11 cd11 ct11), sl11⟩)
    (c11 : PySem.W.codeIn K cd11 "check_leader" = true)
    (k11 : PySem.W.keepIn K (.ref f11) = true)
    (a12 : PySem.W.nsIn K mainGlobals "whole" = some (some (.ref f12)))
    (l12 : K.lookup f12 = some ⟨oc12, od12, .func (PySem.W.fnOf "whole" "whole" (defArgs s_whole) (defBody s_whole) (defScope s_whole) .none kV12 dc12 pm12 an12 cd12 ct12), sl12⟩)
    (c12 : PySem.W.codeIn K cd12 "whole" = true)
    (k12 : PySem.W.keepIn K (.ref f12) = true)
    (a13 : PySem.W.nsIn K mainGlobals "often" = some (some (.ref f13)))
    (l13 : K.lookup f13 = some ⟨oc13, od13, .func (PySem.W.fnOf "often" "often" (defArgs s_often) (defBody s_often) (defScope s_often) .none kV13 dc13 pm13 an13 cd13 ct13), sl13⟩)
    (c13 : PySem.W.codeIn K cd13 "often" = true)
    (k13 : PySem.W.keepIn K (.ref f13) = true)
    (a14 : PySem.W.nsIn K mainGlobals "columns" = some (some (.ref f14)))
    (l14 : K.lookup f14 = some ⟨oc14, od14, .func (PySem.W.fnOf "columns" "columns" (defArgs s_columns) (defBody s_columns) (defScope s_columns) .none kV14 dc14 pm14 an14 cd14 ct14), sl14⟩)
    (c14 : PySem.W.codeIn K cd14 "columns" = true)
    (k14 : PySem.W.keepIn K (.ref f14) = true)
    (a15 : PySem.W.nsIn K mainGlobals "middle_rows" = some (some (.ref f15)))
    (l15 : K.lookup f15 = some ⟨oc15, od15, .func (PySem.W.fnOf "middle_rows" "middle_rows" (defArgs s_middle_rows) (defBody s_middle_rows) (defScope s_middle_rows) .none kV15 dc15 pm15 an15 cd15 ct15), sl15⟩)
    (c15 : PySem.W.codeIn K cd15 "middle_rows" = true)
    (k15 : PySem.W.keepIn K (.ref f15) = true)
    (a16 : PySem.W.nsIn K mainGlobals "hooks" = some (some (.ref f16)))
    (l16 : K.lookup f16 = some ⟨oc16, od16, .func (PySem.W.fnOf "hooks" "hooks" (defArgs s_hooks) (defBody s_hooks) (defScope s_hooks) .none kV16 dc16 pm16 an16 cd16 ct16), sl16⟩)
    (c16 : PySem.W.codeIn K cd16 "hooks" = true)
    (k16 : PySem.W.keepIn K (.ref f16) = true)
    (a17 : PySem.W.nsIn K mainGlobals "turned" = some (some (.ref f17)))
    (l17 : K.lookup f17 = some ⟨oc17, od17, .func (PySem.W.fnOf "turned" "turned" (defArgs s_turned) (defBody s_turned) (defScope s_turned) .none kV17 dc17 pm17 an17 cd17 ct17), sl17⟩)
    (c17 : PySem.W.codeIn K cd17 "turned" = true)
    (k17 : PySem.W.keepIn K (.ref f17) = true)
    (a18 : PySem.W.nsIn K mainGlobals "is_own" = some (some (.ref f18)))
    (l18 : K.lookup f18 = some ⟨oc18, od18, .func (PySem.W.fnOf "is_own" "is_own" (defArgs s_is_own) (defBody s_is_own) (defScope s_is_own) .none kV18 dc18 pm18 an18 cd18 ct18), sl18⟩)
    (c18 : PySem.W.codeIn K cd18 "is_own" = true)
    (k18 : PySem.W.keepIn K (.ref f18) = true)
    (a19 : PySem.W.nsIn K mainGlobals "folded" = some (some (.ref f19)))
    (l19 : K.lookup f19 = some ⟨oc19, od19, .func (PySem.W.fnOf "folded" "folded" (defArgs s_folded) (defBody s_folded) (defScope s_folded) .none kV19 dc19 pm19 an19 cd19 ct19), sl19⟩)
    (c19 : PySem.W.codeIn K cd19 "folded" = true)
    (k19 : PySem.W.keepIn K (.ref f19) = true)
    (a20 : PySem.W.nsIn K mainGlobals "partner" = some (some (.ref f20)))
    (l20 : K.lookup f20 = some ⟨oc20, od20, .func (PySem.W.fnOf "partner" "partner" (defArgs s_partner) (defBody s_partner) (defScope s_partner) .none kV20 dc20 pm20 an20 cd20 ct20), sl20⟩)
    (c20 : PySem.W.codeIn K cd20 "partner" = true)
    (k20 : PySem.W.keepIn K (.ref f20) = true)
    (a21 : PySem.W.nsIn K mainGlobals "spread" = some (some (.ref f21)))
    (l21 : K.lookup f21 = some ⟨oc21, od21, .func (PySem.W.fnOf "spread" "spread" (defArgs s_spread) (defBody s_spread) (defScope s_spread) .none kV21 dc21 pm21 an21 cd21 ct21), sl21⟩)
    (c21 : PySem.W.codeIn K cd21 "spread" = true)
    (k21 : PySem.W.keepIn K (.ref f21) = true)
    (a22 : PySem.W.nsIn K mainGlobals "gathered" = some (some (.ref f22)))
    (l22 : K.lookup f22 = some ⟨oc22, od22, .func (PySem.W.fnOf "gathered" "gathered" (defArgs s_gathered) (defBody s_gathered) (defScope s_gathered) .none kV22 dc22 pm22 an22 cd22 ct22), sl22⟩)
    (c22 : PySem.W.codeIn K cd22 "gathered" = true)
    (k22 : PySem.W.keepIn K (.ref f22) = true)
    (a23 : PySem.W.nsIn K mainGlobals "squared_powers" = some (some (.ref f23)))
    (l23 : K.lookup f23 = some ⟨oc23, od23, .func (PySem.W.fnOf "squared_powers" "squared_powers" (defArgs s_squared_powers) (defBody s_squared_powers) (defScope s_squared_powers) .none kV23 dc23 pm23 an23 cd23 ct23), sl23⟩)
    (c23 : PySem.W.codeIn K cd23 "squared_powers" = true)
    (k23 : PySem.W.keepIn K (.ref f23) = true)
    (a24 : PySem.W.nsIn K mainGlobals "_law_with_sum" = some (some (.ref f24)))
    (l24 : K.lookup f24 = some ⟨oc24, od24, .func (PySem.W.fnOf "_law_with_sum" "_law_with_sum" (defArgs s_law_with_sum) (defBody s_law_with_sum) (defScope s_law_with_sum) .none kV24 dc24 pm24 an24 cd24 ct24), sl24⟩)
    (c24 : PySem.W.codeIn K cd24 "_law_with_sum" = true)
    (k24 : PySem.W.keepIn K (.ref f24) = true)
    (a25 : PySem.W.nsIn K mainGlobals "_law_with_number" = some (some (.ref f25)))
    (l25 : K.lookup f25 = some ⟨oc25, od25, .func (PySem.W.fnOf "_law_with_number" "_law_with_number" (defArgs s_law_with_number) (defBody s_law_with_number) (defScope s_law_with_number) .none kV25 dc25 pm25 an25 cd25 ct25), sl25⟩)
    (c25 : PySem.W.codeIn K cd25 "_law_with_number" = true)
    (k25 : PySem.W.keepIn K (.ref f25) = true)
    (a26 : PySem.W.nsIn K mainGlobals "_law_led" = some (some (.ref f26)))
    (l26 : K.lookup f26 = some ⟨oc26, od26, .func (PySem.W.fnOf "_law_led" "_law_led" (defArgs s_law_led) (defBody s_law_led) (defScope s_law_led) .none kV26 dc26 pm26 an26 cd26 ct26), sl26⟩)
    (c26 : PySem.W.codeIn K cd26 "_law_led" = true)
    (k26 : PySem.W.keepIn K (.ref f26) = true)
    (a27 : PySem.W.nsIn K mainGlobals "_law_others" = some (some (.ref f27)))
    (l27 : K.lookup f27 = some ⟨oc27, od27, .func (PySem.W.fnOf "_law_others" "_law_others" (defArgs s_law_others) (defBody s_law_others) (defScope s_law_others) .none kV27 dc27 pm27 an27 cd27 ct27), sl27⟩)
    (c27 : PySem.W.codeIn K cd27 "_law_others" = true)
    (k27 : PySem.W.keepIn K (.ref f27) = true)
    (a28 : PySem.W.nsIn K mainGlobals "_law_kinds" = some (some (.ref f28)))
    (l28 : K.lookup f28 = some ⟨oc28, od28, .func (PySem.W.fnOf "_law_kinds" "_law_kinds" (defArgs s_law_kinds) (defBody s_law_kinds) (defScope s_law_kinds) .none kV28 dc28 pm28 an28 cd28 ct28), sl28⟩)
    (c28 : PySem.W.codeIn K cd28 "_law_kinds" = true)
    (k28 : PySem.W.keepIn K (.ref f28) = true)
    (a29 : PySem.W.nsIn K mainGlobals "_law_told" = some (some (.ref f29)))
    (l29 : K.lookup f29 = some ⟨oc29, od29, .func (PySem.W.fnOf "_law_told" "_law_told" (defArgs s_law_told) (defBody s_law_told) (defScope s_law_told) .none kV29 dc29 pm29 an29 cd29 ct29), sl29⟩)
    (c29 : PySem.W.codeIn K cd29 "_law_told" = true)
    (k29 : PySem.W.keepIn K (.ref f29) = true)
    (a30 : PySem.W.nsIn K mainGlobals "_law_refused" = some (some (.ref f30)))
    (l30 : K.lookup f30 = some ⟨oc30, od30, .func (PySem.W.fnOf "_law_refused" "_law_refused" (defArgs s_law_refused) (defBody s_law_refused) (defScope s_law_refused) .none kV30 dc30 pm30 an30 cd30 ct30), sl30⟩)
    (c30 : PySem.W.codeIn K cd30 "_law_refused" = true)
    (k30 : PySem.W.keepIn K (.ref f30) = true)
    (a31 : PySem.W.nsIn K mainGlobals "_law_many_right" = some (some (.ref f31)))
    (l31 : K.lookup f31 = some ⟨oc31, od31, .func (PySem.W.fnOf "_law_many_right" "_law_many_right" (defArgs s_law_many_right) (defBody s_law_many_right) (defScope s_law_many_right) .none kV31 dc31 pm31 an31 cd31 ct31), sl31⟩)
    (c31 : PySem.W.codeIn K cd31 "_law_many_right" = true)
    (k31 : PySem.W.keepIn K (.ref f31) = true)
    (a32 : PySem.W.nsIn K mainGlobals "law" = some (some (.ref f32)))
    (l32 : K.lookup f32 = some ⟨oc32, od32, .func (PySem.W.fnOf "law" "law" (defArgs s_law) (defBody s_law) (defScope s_law) .none kV32 dc32 pm32 an32 cd32 ct32), sl32⟩)
    (c32 : PySem.W.codeIn K cd32 "law" = true)
    (k32 : PySem.W.keepIn K (.ref f32) = true)
    (z_ValueError : PySem.W.nsIn K mainGlobals "ValueError" = some none)
    (z_all : PySem.W.nsIn K mainGlobals "all" = some none)
    (z_bool : PySem.W.nsIn K mainGlobals "bool" = some none)
    (z_enumerate : PySem.W.nsIn K mainGlobals "enumerate" = some none)
    (z_int : PySem.W.nsIn K mainGlobals "int" = some none)
    (z_isinstance : PySem.W.nsIn K mainGlobals "isinstance" = some none)
    (z_len : PySem.W.nsIn K mainGlobals "len" = some none)
    (z_list : PySem.W.nsIn K mainGlobals "list" = some none)
    (z_max : PySem.W.nsIn K mainGlobals "max" = some none)
    (z_min : PySem.W.nsIn K mainGlobals "min" = some none)
    (z_range : PySem.W.nsIn K mainGlobals "range" = some none)
    (z_reversed : PySem.W.nsIn K mainGlobals "reversed" = some none)
    (z_sorted : PySem.W.nsIn K mainGlobals "sorted" = some none)
    (z_sum : PySem.W.nsIn K mainGlobals "sum" = some none)
    (z_tuple : PySem.W.nsIn K mainGlobals "tuple" = some none)
    (vMost : PySem.W.nsIn K mainGlobals "MOST_HOOKS" = some (some (.int 1000 tM)))
    : ∃ fd : FuncData, (∀ (s : Shared) (v : Value), BindsTo s fd ⟨[v], []⟩ [("_law_script", v)]) ∧ ∀ base : Heap, K.In base → base.Ns mainGlobals mg → FnOk l.prog w K mg base CX0 11 fa fd ["_law_script"] (PSp K R_law) := by
  have e := hfa.symm.trans (PySem.W.mg_of X G a32)
  have e2 : f32 = fa := (Value.ref.inj (Option.some.inj e)).symm
  subst e2
  have g_ValueError := PySem.W.mg_none_of X G z_ValueError
  have g_all := PySem.W.mg_none_of X G z_all
  have g_bool := PySem.W.mg_none_of X G z_bool
  have g_enumerate := PySem.W.mg_none_of X G z_enumerate
  have g_int := PySem.W.mg_none_of X G z_int
  have g_isinstance := PySem.W.mg_none_of X G z_isinstance
  have g_len := PySem.W.mg_none_of X G z_len
  have g_list := PySem.W.mg_none_of X G z_list
  have g_max := PySem.W.mg_none_of X G z_max
  have g_min := PySem.W.mg_none_of X G z_min
  have g_range := PySem.W.mg_none_of X G z_range
  have g_reversed := PySem.W.mg_none_of X G z_reversed
  have g_sorted := PySem.W.mg_none_of X G z_sorted
  have g_sum := PySem.W.mg_none_of X G z_sum
  have g_tuple := PySem.W.mg_none_of X G z_tuple
  have hMost : ∃ t, mg "MOST_HOOKS" = some (.int 1000 t) := ⟨_, PySem.W.mg_of X G vMost⟩
  have e_BadSum : ErrC K mg (csOf CB CN CS CT) "BadSum" 0 := ⟨PySem.W.mg_of X G aCB, xqB, xkB, xbB, xtB⟩
  have EB : ExcC K CB := ⟨xgB, xhB, xbB, xdB, xaB, xnO, xtO, xmB⟩
  have qB : PySem.W.exmOne K (.ref CB) (.ref CP) = some true := PySem.W.exm_ref xbP xdP xtP xsB
  have e_BadNumber : ErrC K mg (csOf CB CN CS CT) "BadNumber" 1 := ⟨PySem.W.mg_of X G aCN, xqN, xkN, xbN, xtN⟩
  have EN : ExcC K CN := ⟨xgN, xhN, xbN, xdN, xaN, xnO, xtO, xmN⟩
  have qN : PySem.W.exmOne K (.ref CN) (.ref CP) = some true := PySem.W.exm_ref xbP xdP xtP xsN
  have e_NotSuch : ErrC K mg (csOf CB CN CS CT) "NotSuch" 2 := ⟨PySem.W.mg_of X G aCS, xqS, xkS, xbS, xtS⟩
  have ES : ExcC K CS := ⟨xgS, xhS, xbS, xdS, xaS, xnO, xtO, xmS⟩
  have qS : PySem.W.exmOne K (.ref CS) (.ref CP) = some true := PySem.W.exm_ref xbP xdP xtP xsS
  have e_TooMany : ErrC K mg (csOf CB CN CS CT) "TooMany" 3 := ⟨PySem.W.mg_of X G aCT, xqT, xkT, xbT, xtT⟩
  have ET : ExcC K CT := ⟨xgT, xhT, xbT, xdT, xaT, xnO, xtO, xmT⟩
  have qT : PySem.W.exmOne K (.ref CT) (.ref CP) = some true := PySem.W.exm_ref xbP xdP xtP xsT
  have KC : KindC K mg (csOf CB CN CS CT) CP := ⟨PySem.W.mg_of X G aCB, PySem.W.mg_of X G aCN, PySem.W.mg_of X G aCS, PySem.W.mg_of X G aCT, PySem.W.mg_of X G aCP, all4 (p := fun i => ExcC K (csOf CB CN CS CT i)) EB EN ES ET, fun i j hi => all4 (p := fun i => ∀ j, j < 4 → PySem.W.kitOne K (.ref (csOf CB CN CS CT i)) (.ref (csOf CB CN CS CT j)) = some (decide (i = j))) (all4 (p := fun j => PySem.W.kitOne K (.ref (csOf CB CN CS CT 0)) (.ref (csOf CB CN CS CT j)) = some (decide (0 = j))) yBB yBN yBS yBT) (all4 (p := fun j => PySem.W.kitOne K (.ref (csOf CB CN CS CT 1)) (.ref (csOf CB CN CS CT j)) = some (decide (1 = j))) yNB yNN yNS yNT) (all4 (p := fun j => PySem.W.kitOne K (.ref (csOf CB CN CS CT 2)) (.ref (csOf CB CN CS CT j)) = some (decide (2 = j))) ySB ySN ySS yST) (all4 (p := fun j => PySem.W.kitOne K (.ref (csOf CB CN CS CT 3)) (.ref (csOf CB CN CS CT j)) = some (decide (3 = j))) yTB yTN yTS yTT) i hi j, all4 (p := fun i => PySem.W.kitOne K (.ref (csOf CB CN CS CT i)) (.type "ValueError") = some true) xvB xvN xvS xvT, all4 (p := fun i => PySem.W.exmOne K (.ref (csOf CB CN CS CT i)) (.ref CP) = some true) qB qN qS qT⟩
  have F0 := fun_mk (st := s_is_number_from) l0 c0 k0
  have b0 := F0.binds (ps := ["least", "thing"]) fun _ _ _ _ _ _ us hl => match us, hl with | [_, _], _ => rfl
  have m0 := PySem.W.mg_of X G a0
  have F1 := fun_mk (st := s_is_pair) l1 c1 k1
  have b1 := F1.binds (ps := ["thing"]) fun _ _ _ _ _ _ us hl => match us, hl with | [_], _ => rfl
  have m1 := PySem.W.mg_of X G a1
  have F2 := fun_mk (st := s_is_sum) l2 c2 k2
  have b2 := F2.binds (ps := ["thing"]) fun _ _ _ _ _ _ us hl => match us, hl with | [_], _ => rfl
  have m2 := PySem.W.mg_of X G a2
  have F3 := fun_mk (st := s_is_unlike) l3 c3 k3
  have b3 := F3.binds (ps := ["thing"]) fun _ _ _ _ _ _ us hl => match us, hl with | [_], _ => rfl
  have m3 := PySem.W.mg_of X G a3
  have F4 := fun_mk (st := s_law_cell_at) l4 c4 k4
  have b4 := F4.binds (ps := ["_law_script", "_law_k"]) fun _ _ _ _ _ _ us hl => match us, hl with | [_, _], _ => rfl
  have m4 := PySem.W.mg_of X G a4
  have F5 := fun_mk (st := s_law_draw) l5 c5 k5
  have b5 := F5.binds (ps := ["_law_cell", "_law_k", "_law_many"]) fun _ _ _ _ _ _ us hl => match us, hl with | [_, _, _], _ => rfl
  have m5 := PySem.W.mg_of X G a5
  have F6 := fun_mk (st := s_law_number) l6 c6 k6
  have b6 := F6.binds (ps := ["_law_cell", "_law_k", "_law_limit"]) fun _ _ _ _ _ _ us hl => match us, hl with | [_, _, _], _ => rfl
  have m6 := PySem.W.mg_of X G a6
  have F7 := fun_mk (st := s_law_put) l7 c7 k7
  have b7 := F7.binds (ps := ["_law_pairs"]) fun _ _ _ _ _ _ us hl => match us, hl with | [_], _ => rfl
  have m7 := PySem.W.mg_of X G a7
  have F8 := fun_mk (st := s_law_sum) l8 c8 k8
  have b8 := F8.binds (ps := ["_law_script"]) fun _ _ _ _ _ _ us hl => match us, hl with | [_], _ => rfl
  have m8 := PySem.W.mg_of X G a8
  have F9 := fun_mk (st := s_checked_sum) l9 c9 k9
  have b9 := F9.binds (ps := ["parts"]) fun _ _ _ _ _ _ us hl => match us, hl with | [_], _ => rfl
  have m9 := PySem.W.mg_of X G a9
  have F10 := fun_mk (st := s_checked_unlike) l10 c10 k10
  have b10 := F10.binds (ps := ["parts"]) fun _ _ _ _ _ _ us hl => match us, hl with | [_], _ => rfl
  have m10 := PySem.W.mg_of X G a10
  have F11 := fun_mk (st := s_check_leader) l11 c11 k11
  have b11 := F11.binds (ps := ["by"]) fun _ _ _ _ _ _ us hl => match us, hl with | [_], _ => rfl
  have m11 := PySem.W.mg_of X G a11
  have F12 := fun_mk (st := s_whole) l12 c12 k12
  have b12 := F12.binds (ps := ["parts"]) fun _ _ _ _ _ _ us hl => match us, hl with | [_], _ => rfl
  have m12 := PySem.W.mg_of X G a12
  have F13 := fun_mk (st := s_often) l13 c13 k13
  have b13 := F13.binds (ps := ["parts"]) fun _ _ _ _ _ _ us hl => match us, hl with | [_], _ => rfl
  have m13 := PySem.W.mg_of X G a13
  have F14 := fun_mk (st := s_columns) l14 c14 k14
  have b14 := F14.binds (ps := ["pairs"]) fun _ _ _ _ _ _ us hl => match us, hl with | [_], _ => rfl
  have m14 := PySem.W.mg_of X G a14
  have F15 := fun_mk (st := s_middle_rows) l15 c15 k15
  have b15 := F15.binds (ps := ["pairs"]) fun _ _ _ _ _ _ us hl => match us, hl with | [_], _ => rfl
  have m15 := PySem.W.mg_of X G a15
  have F16 := fun_mk (st := s_hooks) l16 c16 k16
  have b16 := F16.binds (ps := ["parts"]) fun _ _ _ _ _ _ us hl => match us, hl with | [_], _ => rfl
  have m16 := PySem.W.mg_of X G a16
  have F17 := fun_mk (st := s_turned) l17 c17 k17
  have b17 := F17.binds (ps := ["parts"]) fun _ _ _ _ _ _ us hl => match us, hl with | [_], _ => rfl
  have m17 := PySem.W.mg_of X G a17
  have F18 := fun_mk (st := s_is_own) l18 c18 k18
  have b18 := F18.binds (ps := ["parts"]) fun _ _ _ _ _ _ us hl => match us, hl with | [_], _ => rfl
  have m18 := PySem.W.mg_of X G a18
  have F19 := fun_mk (st := s_folded) l19 c19 k19
  have b19 := F19.binds (ps := ["parts"]) fun _ _ _ _ _ _ us hl => match us, hl with | [_], _ => rfl
  have m19 := PySem.W.mg_of X G a19
  have F20 := fun_mk (st := s_partner) l20 c20 k20
  have b20 := F20.binds (ps := ["parts"]) fun _ _ _ _ _ _ us hl => match us, hl with | [_], _ => rfl
  have m20 := PySem.W.mg_of X G a20
  have F21 := fun_mk (st := s_spread) l21 c21 k21
  have b21 := F21.binds (ps := ["parts", "by"]) fun _ _ _ _ _ _ us hl => match us, hl with | [_, _], _ => rfl
  have m21 := PySem.W.mg_of X G a21
  have F22 := fun_mk (st := s_gathered) l22 c22 k22
  have b22 := F22.binds (ps := ["parts", "by"]) fun _ _ _ _ _ _ us hl => match us, hl with | [_, _], _ => rfl
  have m22 := PySem.W.mg_of X G a22
  have F23 := fun_mk (st := s_squared_powers) l23 c23 k23
  have b23 := F23.binds (ps := ["by", "most"]) fun _ _ _ _ _ _ us hl => match us, hl with | [_, _], _ => rfl
  have m23 := PySem.W.mg_of X G a23
  have F24 := fun_mk (st := s_law_with_sum) l24 c24 k24
  have b24 := F24.binds (ps := ["_law_door", "_law_parts"]) fun _ _ _ _ _ _ us hl => match us, hl with | [_, _], _ => rfl
  have m24 := PySem.W.mg_of X G a24
  have F25 := fun_mk (st := s_law_with_number) l25 c25 k25
  have b25 := F25.binds (ps := ["_law_door", "_law_by"]) fun _ _ _ _ _ _ us hl => match us, hl with | [_, _], _ => rfl
  have m25 := PySem.W.mg_of X G a25
  have F26 := fun_mk (st := s_law_led) l26 c26 k26
  have b26 := F26.binds (ps := ["_law_door", "_law_pair"]) fun _ _ _ _ _ _ us hl => match us, hl with | [_, _], _ => rfl
  have m26 := PySem.W.mg_of X G a26
  have F27 := fun_mk (st := s_law_others) l27 c27 k27
  have b27 := F27.binds (ps := ["_law_door", "_law_parts"]) fun _ _ _ _ _ _ us hl => match us, hl with | [_, _], _ => rfl
  have m27 := PySem.W.mg_of X G a27
  have F28 := fun_mk (st := s_law_kinds) l28 c28 k28
  have b28 := F28.binds (ps := ["_law_error"]) fun _ _ _ _ _ _ us hl => match us, hl with | [_], _ => rfl
  have m28 := PySem.W.mg_of X G a28
  have F29 := fun_mk (st := s_law_told) l29 c29 k29
  have b29 := F29.binds (ps := ["_law_ask", "_law_door", "_law_thing"]) fun _ _ _ _ _ _ us hl => match us, hl with | [_, _, _], _ => rfl
  have m29 := PySem.W.mg_of X G a29
  have F30 := fun_mk (st := s_law_refused) l30 c30 k30
  have b30 := F30.binds (ps := ["_law_ask", "_law_doors", "_law_things", "_law_due"]) fun _ _ _ _ _ _ us hl => match us, hl with | [_, _, _, _], _ => rfl
  have m30 := PySem.W.mg_of X G a30
  have F31 := fun_mk (st := s_law_many_right) l31 c31 k31
  have b31 := F31.binds (ps := ["_law_far", "_law_due"]) fun _ _ _ _ _ _ us hl => match us, hl with | [_, _], _ => rfl
  have m31 := PySem.W.mg_of X G a31
  have F32 := fun_mk (st := s_law) l32 c32 k32
  have b32 := F32.binds (ps := ["_law_script"]) fun _ _ _ _ _ _ us hl => match us, hl with | [_], _ => rfl
  have m32 := PySem.W.mg_of X G a32
  refine ⟨PySem.W.fnOf "law" "law" (defArgs s_law) (defBody s_law) (defScope s_law) .none kV32 dc32 pm32 an32 cd32 ct32, fun s v => .of_eq rfl, fun base _ _ => ?_⟩
  have G0 : FnOk l.prog w K mg base CX0 1 f0 _ ["least", "thing"] _ := ok_is_number_from F0 (z_isinstance := g_isinstance) (z_int := g_int) (z_bool := g_bool)
  have c_is_number_from : CallOk l.prog w K mg base "is_number_from" 1 _ := CallOk.mk G0 m0 k0 b0
  have G1 : FnOk l.prog w K mg base CX0 2 f1 _ ["thing"] _ := ok_is_pair F1 (z_isinstance := g_isinstance) (z_tuple := g_tuple) (z_len := g_len) (c_is_number_from := c_is_number_from)
  have c_is_pair : CallOk l.prog w K mg base "is_pair" 2 _ := CallOk.mk G1 m1 k1 b1
  have G2 : FnOk l.prog w K mg base CX0 3 f2 _ ["thing"] _ := ok_is_sum F2 (z_isinstance := g_isinstance) (z_list := g_list) (z_all := g_all) (z_range := g_range) (z_len := g_len) (c_is_pair := c_is_pair)
  have c_is_sum : CallOk l.prog w K mg base "is_sum" 3 _ := CallOk.mk G2 m2 k2 b2
  have G3 : FnOk l.prog w K mg base CX0 4 f3 _ ["thing"] _ := ok_is_unlike F3 (z_all := g_all) (c_is_sum := c_is_sum)
  have c_is_unlike : CallOk l.prog w K mg base "is_unlike" 4 _ := CallOk.mk G3 m3 k3 b3
  have G4 : FnOk l.prog w K mg base CX0 1 f4 _ ["_law_script", "_law_k"] _ := ok_law_cell_at F4 (z_len := g_len)
  have c_law_cell_at : CallOk l.prog w K mg base "_law_cell_at" 1 _ := CallOk.mk G4 m4 k4 b4
  have G5 : FnOk l.prog w K mg base CX0 1 f5 _ ["_law_cell", "_law_k", "_law_many"] _ := ok_law_draw F5
  have c_law_draw : CallOk l.prog w K mg base "_law_draw" 1 _ := CallOk.mk G5 m5 k5 b5
  have G6 : FnOk l.prog w K mg base CX0 2 f6 _ ["_law_cell", "_law_k", "_law_limit"] _ := ok_law_number F6 (c_law_draw := c_law_draw)
  have c_law_number : CallOk l.prog w K mg base "_law_number" 2 _ := CallOk.mk G6 m6 k6 b6
  have G7 : FnOk l.prog w K mg base CX0 1 f7 _ ["_law_pairs"] _ := ok_law_put F7 (z_sorted := g_sorted)
  have c_law_put : CallOk l.prog w K mg base "_law_put" 1 _ := CallOk.mk G7 m7 k7 b7
  have G8 : FnOk l.prog w K mg base CX0 3 f8 _ ["_law_script"] _ := ok_law_sum F8 (z_enumerate := g_enumerate) (c_law_draw := c_law_draw) (c_law_cell_at := c_law_cell_at) (c_law_number := c_law_number) (c_law_put := c_law_put)
  have c_law_sum : CallOk l.prog w K mg base "_law_sum" 3 _ := CallOk.mk G8 m8 k8 b8
  have G9 : FnOk l.prog w K mg base CX0 4 f9 _ ["parts"] _ := ok_checked_sum F9 (c_is_sum := c_is_sum)
  have c_checked_sum : CallOk l.prog w K mg base "checked_sum" 4 _ := CallOk.mk G9 m9 k9 b9
  have G10 : FnOk l.prog w K mg base CX0 5 f10 _ ["parts"] _ := ok_checked_unlike F10 (c_checked_sum := c_checked_sum) (c_is_unlike := c_is_unlike)
  have c_checked_unlike : CallOk l.prog w K mg base "checked_unlike" 5 _ := CallOk.mk G10 m10 k10 b10
  have G11 : FnOk l.prog w K mg base CX0 2 f11 _ ["by"] _ := ok_check_leader F11 (c_is_number_from := c_is_number_from)
  have c_check_leader : CallOk l.prog w K mg base "check_leader" 2 _ := CallOk.mk G11 m11 k11 b11
  have H9 : FnOk l.prog w K mg base (L2N.CX l.prog w) 4 f9 _ ["parts"] _ := okx_checked_sum F9 (e_BadSum := e_BadSum) (c_is_sum := c_is_sum)
  have x_checked_sum_ : CallX l.prog w K mg base (csOf CB CN CS CT) "checked_sum" 4 _ := CallX.mk H9 m9 k9 b9
  have H10 : FnOk l.prog w K mg base (L2N.CX l.prog w) 5 f10 _ ["parts"] _ := okx_checked_unlike F10 (e_NotSuch := e_NotSuch) (c_checked_sum := c_checked_sum) (x_checked_sum_ := x_checked_sum_) (c_is_unlike := c_is_unlike)
  have x_checked_unlike_ : CallX l.prog w K mg base (csOf CB CN CS CT) "checked_unlike" 5 _ := CallX.mk H10 m10 k10 b10
  have H11 : FnOk l.prog w K mg base (L2N.CX l.prog w) 2 f11 _ ["by"] _ := okx_check_leader F11 (e_BadNumber := e_BadNumber) (c_is_number_from := c_is_number_from)
  have x_check_leader_ : CallX l.prog w K mg base (csOf CB CN CS CT) "check_leader" 2 _ := CallX.mk H11 m11 k11 b11
  have H12 : FnOk l.prog w K mg base (L2N.CX l.prog w) 5 f12 _ ["parts"] _ := okx_whole F12 (z_sum := g_sum) (x_checked_sum_ := x_checked_sum_)
  have x_whole_ : CallX l.prog w K mg base (csOf CB CN CS CT) "whole" 5 _ := CallX.mk H12 m12 k12 b12
  have H13 : FnOk l.prog w K mg base (L2N.CX l.prog w) 5 f13 _ ["parts"] _ := okx_often F13 (z_sum := g_sum) (x_checked_sum_ := x_checked_sum_)
  have x_often_ : CallX l.prog w K mg base (csOf CB CN CS CT) "often" 5 _ := CallX.mk H13 m13 k13 b13
  have G14 : FnOk l.prog w K mg base CX0 1 f14 _ ["pairs"] _ := ok_columns F14 (z_enumerate := g_enumerate) (z_len := g_len)
  have c_columns : CallOk l.prog w K mg base "columns" 1 _ := CallOk.mk G14 m14 k14 b14
  have G15 : FnOk l.prog w K mg base CX0 1 f15 _ ["pairs"] _ := ok_middle_rows F15 (z_min := g_min)
  have c_middle_rows : CallOk l.prog w K mg base "middle_rows" 1 _ := CallOk.mk G15 m15 k15 b15
  have G16 : FnOk l.prog w K mg base CX0 5 f16 _ ["parts"] _ := ok_hooks F16 (z_range := g_range) (gMost := hMost) (c_checked_sum := c_checked_sum) (c_columns := c_columns) (c_middle_rows := c_middle_rows)
  have c_hooks : CallOk l.prog w K mg base "hooks" 5 _ := CallOk.mk G16 m16 k16 b16
  have H17 : FnOk l.prog w K mg base (L2N.CX l.prog w) 5 f17 _ ["parts"] _ := okx_turned F17 (x_checked_sum_ := x_checked_sum_) (c_columns := c_columns)
  have x_turned_ : CallX l.prog w K mg base (csOf CB CN CS CT) "turned" 5 _ := CallX.mk H17 m17 k17 b17
  have H18 : FnOk l.prog w K mg base (L2N.CX l.prog w) 5 f18 _ ["parts"] _ := okx_is_own F18 (x_checked_sum_ := x_checked_sum_)
  have x_is_own_ : CallX l.prog w K mg base (csOf CB CN CS CT) "is_own" 5 _ := CallX.mk H18 m18 k18 b18
  have H16 : FnOk l.prog w K mg base (L2N.CX l.prog w) 5 f16 _ ["parts"] _ := okx_hooks F16 (gMost := hMost) (e_NotSuch := e_NotSuch) (e_TooMany := e_TooMany) (c_checked_sum := c_checked_sum) (x_checked_sum_ := x_checked_sum_) (c_columns := c_columns) (c_middle_rows := c_middle_rows)
  have x_hooks_ : CallX l.prog w K mg base (csOf CB CN CS CT) "hooks" 5 _ := CallX.mk H16 m16 k16 b16
  have H19 : FnOk l.prog w K mg base (L2N.CX l.prog w) 6 f19 _ ["parts"] _ := okx_folded F19 (e_NotSuch := e_NotSuch) (c_checked_unlike := c_checked_unlike) (x_checked_unlike_ := x_checked_unlike_)
  have x_folded_ : CallX l.prog w K mg base (csOf CB CN CS CT) "folded" 6 _ := CallX.mk H19 m19 k19 b19
  have H20 : FnOk l.prog w K mg base (L2N.CX l.prog w) 6 f20 _ ["parts"] _ := okx_partner F20 (x_checked_unlike_ := x_checked_unlike_)
  have x_partner_ : CallX l.prog w K mg base (csOf CB CN CS CT) "partner" 6 _ := CallX.mk H20 m20 k20 b20
  have H21 : FnOk l.prog w K mg base (L2N.CX l.prog w) 5 f21 _ ["parts", "by"] _ := okx_spread F21 (e_NotSuch := e_NotSuch) (c_checked_sum := c_checked_sum) (x_checked_sum_ := x_checked_sum_) (c_check_leader := c_check_leader) (x_check_leader_ := x_check_leader_)
  have x_spread_ : CallX l.prog w K mg base (csOf CB CN CS CT) "spread" 5 _ := CallX.mk H21 m21 k21 b21
  have H22 : FnOk l.prog w K mg base (L2N.CX l.prog w) 5 f22 _ ["parts", "by"] _ := okx_gathered F22 (e_NotSuch := e_NotSuch) (c_checked_sum := c_checked_sum) (x_checked_sum_ := x_checked_sum_) (c_check_leader := c_check_leader) (x_check_leader_ := x_check_leader_)
  have x_gathered_ : CallX l.prog w K mg base (csOf CB CN CS CT) "gathered" 5 _ := CallX.mk H22 m22 k22 b22
  have G23 : FnOk l.prog w K mg base CX0 1 f23 _ ["by", "most"] _ := ok_squared_powers F23
  have c_squared_powers : CallOk l.prog w K mg base "squared_powers" 1 _ := CallOk.mk G23 m23 k23 b23
  have G21 : FnOk l.prog w K mg base CX0 5 f21 _ ["parts", "by"] _ := ok_spread F21 (z_max := g_max) (z_reversed := g_reversed) (z_sorted := g_sorted) (c_checked_sum := c_checked_sum) (c_check_leader := c_check_leader) (c_squared_powers := c_squared_powers)
  have c_spread : CallOk l.prog w K mg base "spread" 5 _ := CallOk.mk G21 m21 k21 b21
  have H24 : FnOk l.prog w K mg base (L2N.CX l.prog w) 7 f24 _ ["_law_door", "_law_parts"] _ := okx_law_with_sum F24 (x_whole_ := x_whole_) (x_often_ := x_often_) (x_turned_ := x_turned_) (x_is_own_ := x_is_own_) (x_spread_ := x_spread_) (x_gathered_ := x_gathered_) (x_partner_ := x_partner_) (x_folded_ := x_folded_) (x_hooks_ := x_hooks_)
  have x_law_with_sum_ : CallX l.prog w K mg base (csOf CB CN CS CT) "_law_with_sum" 7 _ := CallX.mk H24 m24 k24 b24
  have H25 : FnOk l.prog w K mg base (L2N.CX l.prog w) 7 f25 _ ["_law_door", "_law_by"] _ := okx_law_with_number F25 (x_spread_ := x_spread_) (x_gathered_ := x_gathered_)
  have x_law_with_number_ : CallX l.prog w K mg base (csOf CB CN CS CT) "_law_with_number" 7 _ := CallX.mk H25 m25 k25 b25
  have H26 : FnOk l.prog w K mg base (L2N.CX l.prog w) 7 f26 _ ["_law_door", "_law_pair"] _ := okx_law_led F26 (x_spread_ := x_spread_) (x_gathered_ := x_gathered_)
  have x_law_led_ : CallX l.prog w K mg base (csOf CB CN CS CT) "_law_led" 7 _ := CallX.mk H26 m26 k26 b26
  have H27 : FnOk l.prog w K mg base (L2N.CX l.prog w) 7 f27 _ ["_law_door", "_law_parts"] _ := okx_law_others F27 (x_partner_ := x_partner_) (x_folded_ := x_folded_) (x_hooks_ := x_hooks_)
  have x_law_others_ : CallX l.prog w K mg base (csOf CB CN CS CT) "_law_others" 7 _ := CallX.mk H27 m27 k27 b27
  have G29 : FnOk l.prog w K mg base CX0 8 f29 _ ["_law_ask", "_law_door", "_law_thing"] _ := ok_law_told F29 (Fk := F28) (mk_ := m28) (bk := b28) (KC := KC) (z_isinstance := g_isinstance) (z_ValueError := g_ValueError) (gA1 := m24) (gA2 := m25) (gA3 := m26) (gA4 := m27) (x_law_with_sum_ := x_law_with_sum_) (x_law_with_number_ := x_law_with_number_) (x_law_led_ := x_law_led_) (x_law_others_ := x_law_others_)
  have c_law_told : CallOk l.prog w K mg base "_law_told" 8 _ := CallOk.mk G29 m29 k29 b29
  have G30 : FnOk l.prog w K mg base CX0 9 f30 _ ["_law_ask", "_law_doors", "_law_things", "_law_due"] _ := ok_law_refused F30 (z_all := g_all) (c_law_told := c_law_told)
  have c_law_refused : CallOk l.prog w K mg base "_law_refused" 9 _ := CallOk.mk G30 m30 k30 b30
  have G31 : FnOk l.prog w K mg base CX0 10 f31 _ ["_law_far", "_law_due"] _ := ok_law_many_right F31 (z_len := g_len) (gA4 := m27) (c_law_refused := c_law_refused) (c_hooks := c_hooks)
  have c_law_many_right : CallOk l.prog w K mg base "_law_many_right" 10 _ := CallOk.mk G31 m31 k31 b31
  have G32 : FnOk l.prog w K mg base CX0 11 f32 _ ["_law_script"] _ := ok_law F32 (z_range := g_range) (z_list := g_list) (z_len := g_len) (gA1 := m24) (gA2 := m25) (gA3 := m26) (gA4 := m27) (c_law_cell_at := c_law_cell_at) (c_law_sum := c_law_sum) (c_law_refused := c_law_refused) (c_law_many_right := c_law_many_right) (c_spread := c_spread)
  exact G32
theorem law_sp {K : PySem.W.Frag} {H : Hp} {a : Addr} {ns : List Int} (hl : ns.length ≤ 63) (hb : ∀ z ∈ ns, Builtin.Int.intBits z ≤ 1048576) (hS : SqL K H a (ns.map V.int)) : PSp K R_law [.ref a] H (fun v _ => v = .bl true) fun _ _ _ => False :=
  ⟨[iL ns], .bl true, .cons (.scr rfl hS rfl) .nil, r_law ⟨hl, hb⟩, fun v H2 _ r => R.blI r⟩
end KX
open PySem PySem.W PyProof.Rows
set_option maxHeartbeats 0 in
theorem PySem.Challenge.cw_partways_k05_refused_holds : PySem.Challenge.rw_partways_k05_refused.Holds := by
  w_on; o_law; k_head; (case hw => w_witness2)
  k_fill
  refine L2.walk_ofB (l := PySem.Challenge.rw_partways_k05_refused) (n := 63) (k := 11) (x := "_law_script") (CX := fun _ => L2.CX0) (sp := fun w => DW.PSp _ KX.R_law) rfl (by decide) rfl ⟨rfl, by decide, by decide⟩ (fun w h Y => PySem.W.kIn_of Y) ?F (fun w H a ns hl hb hO hS => KX.law_sp hl hb hS) fun _ _ _ _ _ z => z
  case F =>
    intro w mg fa h hKI hGI hmg
    refine' KX.all_mk hKI hGI hmg ?aCB ?aCN ?aCS ?aCT ?aCP ?xqB ?xkB ?xbB ?xtB ?xgB ?xhB ?xdB ?xaB ?xmB ?xvB ?xsB ?yBB ?yBN ?yBS ?yBT ?xqN ?xkN ?xbN ?xtN ?xgN ?xhN ?xdN ?xaN ?xmN ?xvN ?xsN ?yNB ?yNN ?yNS ?yNT ?xqS ?xkS ?xbS ?xtS ?xgS ?xhS ?xdS ?xaS ?xmS ?xvS ?xsS ?ySB ?ySN ?ySS ?yST ?xqT ?xkT ?xbT ?xtT ?xgT ?xhT ?xdT ?xaT ?xmT ?xvT ?xsT ?yTB ?yTN ?yTS ?yTT ?xbP ?xtP ?xdP ?xnO ?xtO ?a0 ?l0 ?c0 ?k0 ?a1 ?l1 ?c1 ?k1 ?a2 ?l2 ?c2 ?k2 ?a3 ?l3 ?c3 ?k3 ?a4 ?l4 ?c4 ?k4 ?a5 ?l5 ?c5 ?k5 ?a6 ?l6 ?c6 ?k6 ?a7 ?l7 ?c7 ?k7 ?a8 ?l8 ?c8 ?k8 ?a9 ?l9 ?c9 ?k9 ?a10 ?l10 ?c10 ?k10 ?a11 ?l11 ?c11 ?k11 ?a12 ?l12 ?c12 ?k12 ?a13 ?l13 ?c13 ?k13 ?a14 ?l14 ?c14 ?k14 ?a15 ?l15 ?c15 ?k15 ?a16 ?l16 ?c16 ?k16 ?a17 ?l17 ?c17 ?k17 ?a18 ?l18 ?c18 ?k18 ?a19 ?l19 ?c19 ?k19 ?a20 ?l20 ?c20 ?k20 ?a21 ?l21 ?c21 ?k21 ?a22 ?l22 ?c22 ?k22 ?a23 ?l23 ?c23 ?k23 ?a24 ?l24 ?c24 ?k24 ?a25 ?l25 ?c25 ?k25 ?a26 ?l26 ?c26 ?k26 ?a27 ?l27 ?c27 ?k27 ?a28 ?l28 ?c28 ?k28 ?a29 ?l29 ?c29 ?k29 ?a30 ?l30 ?c30 ?k30 ?a31 ?l31 ?c31 ?k31 ?a32 ?l32 ?c32 ?k32 ?z_ValueError ?z_all ?z_bool ?z_enumerate ?z_int ?z_isinstance ?z_len ?z_list ?z_max ?z_min ?z_range ?z_reversed ?z_sorted ?z_sum ?z_tuple ?vMost
    (case aCB => k_is); (case aCN => k_is); (case aCS => k_is); (case aCT => k_is); (case aCP => k_is); (case xqB => k_exc); (case xkB => k_is); (case xbB => k_is); (case xtB => k_is); (case xgB => k_is); (case xhB => k_is); (case xdB => k_is); (case xaB => k_is); (case xmB => k_is); (case xvB => kit_is); (case xsB => k_is); (case yBB => kit_is); (case yBN => kit_is); (case yBS => kit_is); (case yBT => kit_is); (case xqN => k_exc); (case xkN => k_is); (case xbN => k_is); (case xtN => k_is); (case xgN => k_is); (case xhN => k_is); (case xdN => k_is); (case xaN => k_is); (case xmN => k_is); (case xvN => kit_is); (case xsN => k_is); (case yNB => kit_is); (case yNN => kit_is); (case yNS => kit_is); (case yNT => kit_is); (case xqS => k_exc); (case xkS => k_is); (case xbS => k_is); (case xtS => k_is); (case xgS => k_is); (case xhS => k_is); (case xdS => k_is); (case xaS => k_is); (case xmS => k_is); (case xvS => kit_is); (case xsS => k_is); (case ySB => kit_is); (case ySN => kit_is); (case ySS => kit_is); (case yST => kit_is); (case xqT => k_exc); (case xkT => k_is); (case xbT => k_is); (case xtT => k_is); (case xgT => k_is); (case xhT => k_is); (case xdT => k_is); (case xaT => k_is); (case xmT => k_is); (case xvT => kit_is); (case xsT => k_is); (case yTB => kit_is); (case yTN => kit_is); (case yTS => kit_is); (case yTT => kit_is); (case xbP => k_is); (case xtP => k_is); (case xdP => k_is); (case xnO => k_is); (case xtO => k_is); (case a0 => k_is); (case l0 => k_is); (case c0 => k_is); (case k0 => k_is); (case a1 => k_is); (case l1 => k_is); (case c1 => k_is); (case k1 => k_is); (case a2 => k_is); (case l2 => k_is); (case c2 => k_is); (case k2 => k_is); (case a3 => k_is); (case l3 => k_is); (case c3 => k_is); (case k3 => k_is); (case a4 => k_is); (case l4 => k_is); (case c4 => k_is); (case k4 => k_is); (case a5 => k_is); (case l5 => k_is); (case c5 => k_is); (case k5 => k_is); (case a6 => k_is); (case l6 => k_is); (case c6 => k_is); (case k6 => k_is); (case a7 => k_is); (case l7 => k_is); (case c7 => k_is); (case k7 => k_is); (case a8 => k_is); (case l8 => k_is); (case c8 => k_is); (case k8 => k_is); (case a9 => k_is); (case l9 => k_is); (case c9 => k_is); (case k9 => k_is); (case a10 => k_is); (case l10 => k_is); (case c10 => k_is); (case k10 => k_is); (case a11 => k_is); (case l11 => k_is); (case c11 => k_is); (case k11 => k_is); (case a12 => k_is); (case l12 => k_is); (case c12 => k_is); (case k12 => k_is); (case a13 => k_is); (case l13 => k_is); (case c13 => k_is); (case k13 => k_is); (case a14 => k_is); (case l14 => k_is); (case c14 => k_is); (case k14 => k_is); (case a15 => k_is); (case l15 => k_is); (case c15 => k_is); (case k15 => k_is); (case a16 => k_is); (case l16 => k_is); (case c16 => k_is); (case k16 => k_is); (case a17 => k_is); (case l17 => k_is); (case c17 => k_is); (case k17 => k_is); (case a18 => k_is); (case l18 => k_is); (case c18 => k_is); (case k18 => k_is); (case a19 => k_is); (case l19 => k_is); (case c19 => k_is); (case k19 => k_is); (case a20 => k_is); (case l20 => k_is); (case c20 => k_is); (case k20 => k_is); (case a21 => k_is); (case l21 => k_is); (case c21 => k_is); (case k21 => k_is); (case a22 => k_is); (case l22 => k_is); (case c22 => k_is); (case k22 => k_is); (case a23 => k_is); (case l23 => k_is); (case c23 => k_is); (case k23 => k_is); (case a24 => k_is); (case l24 => k_is); (case c24 => k_is); (case k24 => k_is); (case a25 => k_is); (case l25 => k_is); (case c25 => k_is); (case k25 => k_is); (case a26 => k_is); (case l26 => k_is); (case c26 => k_is); (case k26 => k_is); (case a27 => k_is); (case l27 => k_is); (case c27 => k_is); (case k27 => k_is); (case a28 => k_is); (case l28 => k_is); (case c28 => k_is); (case k28 => k_is); (case a29 => k_is); (case l29 => k_is); (case c29 => k_is); (case k29 => k_is); (case a30 => k_is); (case l30 => k_is); (case c30 => k_is); (case k30 => k_is); (case a31 => k_is); (case l31 => k_is); (case c31 => k_is); (case k31 => k_is); (case a32 => k_is); (case l32 => k_is); (case c32 => k_is); (case k32 => k_is); (case z_ValueError => k_is); (case z_all => k_is); (case z_bool => k_is); (case z_enumerate => k_is); (case z_int => k_is); (case z_isinstance => k_is); (case z_len => k_is); (case z_list => k_is); (case z_max => k_is); (case z_min => k_is); (case z_range => k_is); (case z_reversed => k_is); (case z_sorted => k_is); (case z_sum => k_is); (case z_tuple => k_is); (case vMost => k_is)
