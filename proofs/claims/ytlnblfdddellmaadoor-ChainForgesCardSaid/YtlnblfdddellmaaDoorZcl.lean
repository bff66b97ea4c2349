/-
  Great zero values, by name: nothing, where the load writes them.
-/
import Derived.Test.YtlnblfdddellmaaDoorPkc
